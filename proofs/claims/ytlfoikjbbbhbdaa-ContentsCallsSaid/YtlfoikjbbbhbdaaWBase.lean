/- Words for slices of bytes in memory: what a slice value reads as, a row of memory that is known whole, and what stays. No condition. -/
import Derived.Test.YtlfoikjbbbhbdaaRows
import Derived.Test.YtlfoikjbbbhbdaaWNm
import Derived.WalkKit
import Derived.WalkSpells
import Derived.WalkLawsBesides
import Derived.Lib.Hide
import Derived.Deep.QuietTactic
import Derived.BigQuiet
import Derived.Laws.AppendOwnNone
import Derived.Laws.CopyOwn
namespace Go.Proofs.Ytlfoikjbbbhbdaa
namespace By
open Go.RowKit WireN
set_option linter.unusedVariables false
set_option linter.unusedSimpArgs false

theorem ret_int {k : IntKind} {a b : Int} (h : a = b) : Ending.returned (.int k a) = .returned (.int k b) := by rw [h]
theorem ret_bool {a b : Bool} (h : a = b) : Ending.returned (.bool a) = .returned (.bool b) := by rw [h]

theorem vint {k : IntKind} {a b : Int} (h : a = b) : Value.int k a = Value.int k b := by rw [h]

/-- Nothing that was there has changed. -/
abbrev Kp (w w' : World) : Prop := Below w.heap.size w w'
theorem Kp.drewN (w : World) (n : Nat) : Kp w (w.drewN n) := ⟨rfl, rfl, rfl, Nat.le_refl _, fun _ _ => rfl⟩
theorem Kp.refl (w : World) : Kp w w := Below.refl _ _
theorem Kp.trans {a b c : World} (h : Kp a b) (k : Kp b c) : Kp a c := Below.trans h (Below.mono k h.size)
theorem Kp.of_eq {a b : World} (h : a = b) : Kp a b := by subst h; exact Kp.refl _
theorem Kp.alloc {a b : World} (h : Kp a b) (o : Obj) : Kp a (b.alloc o) := Below.alloc h h.size o
def Drawn (w w' : World) : Prop := ∃ n, w' = w.drewN n
theorem Drawn.refl (w : World) : Drawn w w := ⟨0, rfl⟩
theorem Drawn.drew {w w' : World} (h : Drawn w w') (n : Nat) : Drawn w (w'.drewN n) := by obtain ⟨m, rfl⟩ := h; exact ⟨_, World.drewN_drewN _ _ _⟩
theorem Drawn.one {w w' : World} (h : Drawn w w') : Drawn w w'.drew := h.drew 1
theorem Drawn.kp {w w' : World} (h : Drawn w w') : Kp w w' := by obtain ⟨m, rfl⟩ := h; exact Kp.drewN _ _

/-- The slice's address holds the numbers. -/
def At (w : World) (ao : Option Addr) (xs : List Nat) : Prop :=
  xs = [] ∨ ∃ b off, ao = some ⟨b, off, none⟩ ∧ ∀ i : Nat, i < xs.length → w.cell? ⟨b, off + i, none⟩ = some (.int .u8 (xs[i]?.getD 0 : Nat))
theorem At.cells {w : World} {ao : Option Addr} {xs : List Nat} (h : At w ao xs) (hx : 0 < xs.length) :
    ∃ b off, ao = some ⟨b, off, none⟩ ∧ ∀ i : Nat, i < xs.length → w.cell? ⟨b, off + i, none⟩ = some (.int .u8 (xs[i]?.getD 0 : Nat)) := by
  rcases h with rfl | h
  · simp at hx
  · exact h
theorem At.nil (w : World) (ao : Option Addr) : At w ao [] := .inl rfl
theorem At.keep {w w' : World} {ao : Option Addr} {xs : List Nat} (h : At w ao xs) (hk : Kp w w') : At w' ao xs := by
  rcases h with rfl | ⟨b, off, rfl, h⟩
  · exact .inl rfl
  · refine .inr ⟨b, off, rfl, fun i hi => ?_⟩
    have h1 := h i hi
    exact (hk.cell (World.block_lt_of_cell? w _ h1)).trans h1
theorem At.take {w : World} {ao : Option Addr} {xs : List Nat} (h : At w ao xs) (k : Nat) : At w ao (xs.take k) := by
  rcases h with rfl | ⟨b, off, rfl, h⟩
  · exact .inl (by simp)
  · refine .inr ⟨b, off, rfl, fun i hi => ?_⟩
    rw [List.length_take] at hi
    rw [List.getElem?_take, if_pos (by omega)]
    exact h i (by omega)

/-- The value is a slice that reads as the bytes xs. -/
structure Sl (w : World) (v : Value) (xs : List Nat) : Prop where
  ex : ∃ ao cap, v = .slice ao xs.length cap ∧ xs.length ≤ cap ∧ cap ≤ maxLen ∧ At w ao xs ∧ (ao = none → cap = 0)
  lt : Lt xs
  sm : xs.length ≤ 140737488355328
theorem Sl.keep {w w' : World} {v : Value} {xs : List Nat} (h : Sl w v xs) (hk : Kp w w') : Sl w' v xs := by
  obtain ⟨⟨ao, cap, h1, h2, h3, h4, h5⟩, hl, hs⟩ := h
  exact ⟨⟨ao, cap, h1, h2, h3, h4.keep hk, h5⟩, hl, hs⟩
theorem Sl.nil (w : World) : Sl w (.slice none 0 0) [] := ⟨⟨none, 0, rfl, Nat.le_refl _, Nat.zero_le _, At.nil _ _, fun _ => rfl⟩, Lt.nil, by simp⟩
theorem Sl.len {w : World} {v : Value} {xs : List Nat} (h : Sl w v xs) : xs.length ≤ maxLen := by
  obtain ⟨⟨ao, cap, h1, h2, h3, h4, h5⟩, hl, hs⟩ := h
  omega
/-- The value is nil or lies in new memory. -/
def New (B : Nat) (v : Value) : Prop := ∀ a len cap, v = .slice (some a) len cap → B ≤ a.block
theorem New.nil (B : Nat) : New B (.slice none 0 0) := by intro a len cap h; simp at h
theorem New.mono {B C : Nat} {v : Value} (h : New B v) (hc : C ≤ B) : New C v := fun a l c e => Nat.le_trans hc (h a l c e)
/-- What the value reads as does not lie in block g. -/
def Off (g : Nat) (v : Value) (xs : List Nat) : Prop := xs ≠ [] → ∀ a len cap, v = .slice (some a) len cap → a.block ≠ g

/-- Block g is a row of bytes. -/
def U (zs : List Nat) : List Value := zs.map fun (z : Nat) => Value.int .u8 (z : Int)
structure Row (w : World) (g : Nat) (e : TypeId) (zs : List Nat) : Prop where
  blk : w.heap[g]? = some (.cells (U zs).toArray e (0, 0))
theorem U_length (zs : List Nat) : (U zs).length = zs.length := by simp [U]
theorem Row.cell {w : World} {g : Nat} {e : TypeId} {zs : List Nat} (h : Row w g e zs) (i : Nat) (hi : i < zs.length) : w.cell? ⟨g, i, none⟩ = some (.int .u8 (zs[i]?.getD 0 : Nat)) := by
  rw [cell_of_row w g i _ e (0, 0) h.blk]
  simp [U, List.getElem?_eq_getElem hi]
theorem Row.free {w : World} {g : Nat} {e : TypeId} {zs : List Nat} (h : Row w g e zs) (i : Nat) : w.frozen? ⟨g, i, none⟩ = false := frozen_of_row w g i _ e h.blk
theorem Row.lt {w : World} {g : Nat} {e : TypeId} {zs : List Nat} (h : Row w g e zs) : g < w.heap.size := lt_of_block h.blk
/-- All but block g is as it was. -/
structure Only (g : Nat) (w w' : World) : Prop where
  os : w'.os = w.os
  tape : w'.tape = w.tape
  output : w'.output = w.output
  size : w.heap.size = w'.heap.size
  block : ∀ k, k ≠ g → w'.heap[k]? = w.heap[k]?
theorem Only.refl (g : Nat) (w : World) : Only g w w := ⟨rfl, rfl, rfl, rfl, fun _ _ => rfl⟩
theorem Only.trans {g : Nat} {a b c : World} (h : Only g a b) (k : Only g b c) : Only g a c :=
  ⟨k.os.trans h.os, k.tape.trans h.tape, k.output.trans h.output, h.size.trans k.size, fun i hi => (k.block i hi).trans (h.block i hi)⟩
theorem Only.set {g : Nat} {a w : World} (h : Only g a w) (i : Nat) (u : Value) : Only g a (w.setCell ⟨g, i, none⟩ u) :=
  h.trans ⟨rfl, rfl, rfl, by simp, fun k hk => heap_setCell_other w ⟨g, i, none⟩ k u hk⟩
theorem Only.drewN {g : Nat} {a w : World} (h : Only g a w) (n : Nat) : Only g a (w.drewN n) := h.trans ⟨rfl, rfl, rfl, rfl, fun _ _ => rfl⟩
theorem Only.drew {g : Nat} {a w : World} (h : Only g a w) : Only g a w.drew := h.trans ⟨rfl, rfl, rfl, rfl, fun _ _ => rfl⟩
theorem Only.drawn {g : Nat} {a w w' : World} (h : Only g a w) (k : Drawn w w') : Only g a w' := by obtain ⟨n, rfl⟩ := k; exact h.drewN n
theorem Only.kp {g : Nat} {a b c : World} (hk : Kp a b) (h : Only g b c) (hg : a.heap.size ≤ g) : Kp a c :=
  Below.trans hk ⟨h.os, h.tape, h.output, Nat.le_of_eq h.size, fun k hk => h.block k (by omega)⟩
theorem Row.set {w : World} {g : Nat} {e : TypeId} {zs : List Nat} (h : Row w g e zs) (i d : Nat) : Row (w.setCell ⟨g, i, none⟩ (.int .u8 (d : Int))) g e (zs.set i d) := by
  refine ⟨?_⟩
  rw [heap_setCell_same w g i _ e _ h.blk]
  simp [U]
theorem Row.set' {w : World} {g : Nat} {e : TypeId} {zs : List Nat} (h : Row w g e zs) (i d : Nat) (D : Int) (hd : D = (d : Int)) : Row (w.setCell ⟨g, i, none⟩ (.int .u8 D)) g e (zs.set i d) := by
  subst hd; exact h.set i d
theorem Row.other {w w' : World} {g k : Nat} {e : TypeId} {zs : List Nat} (h : Row w g e zs) (ho : Only k w w') (hne : g ≠ k) : Row w' g e zs := ⟨(ho.block g hne).trans h.blk⟩
theorem Row.drewN {w : World} {g : Nat} {e : TypeId} {zs : List Nat} (h : Row w g e zs) (n : Nat) : Row (w.drewN n) g e zs := ⟨h.blk⟩
theorem Row.keep {w w' : World} {g : Nat} {e : TypeId} {zs : List Nat} (h : Row w g e zs) (hk : Kp w w') : Row w' g e zs := ⟨(hk.block g h.lt).trans h.blk⟩
theorem At.only {w w' : World} {ao : Option Addr} {xs : List Nat} {g : Nat} (h : At w ao xs) (ho : Only g w w') (hg : xs ≠ [] → ∀ a, ao = some a → a.block ≠ g) : At w' ao xs := by
  rcases h with rfl | ⟨b, off, rfl, h⟩
  · exact .inl rfl
  · by_cases hx : xs = []
    · exact .inl hx
    · exact .inr ⟨b, off, rfl, fun i hi => (World.cell?_of_block (ho.block b (hg hx _ rfl))).trans (h i hi)⟩
theorem Sl.only {w w' : World} {v : Value} {xs : List Nat} {g : Nat} (h : Sl w v xs) (ho : Only g w w') (hg : Off g v xs) : Sl w' v xs := by
  obtain ⟨⟨ao, cap, h1, h2, h3, h4, h5⟩, hl, hs⟩ := h
  exact ⟨⟨ao, cap, h1, h2, h3, h4.only ho (fun hx a ha => hg hx a _ _ (by rw [h1, ha])), h5⟩, hl, hs⟩
theorem Sl.off {w : World} {v : Value} {xs : List Nat} (h : Sl w v xs) {g : Nat} (hg : w.heap.size ≤ g) : Off g v xs := by
  obtain ⟨⟨ao, cap, rfl, h2, h3, h4, h5⟩, hl, hs⟩ := h
  intro hx a l c e
  simp only [Value.slice.injEq] at e
  obtain ⟨b, off, h6, h7⟩ := h4.cells (List.length_pos_iff.2 hx)
  have := World.block_lt_of_cell? w _ (h7 0 (List.length_pos_iff.2 hx))
  rw [h6] at e
  obtain rfl := Option.some.inj e.1
  simp only at this ⊢
  omega
theorem Row.at {w : World} {g : Nat} {e : TypeId} {zs : List Nat} (h : Row w g e zs) (o : Nat) : At w (some ⟨g, o, none⟩) (zs.drop o) := by
  by_cases hz : zs.drop o = []
  · exact .inl hz
  · refine .inr ⟨g, o, rfl, fun i hi => ?_⟩
    rw [List.length_drop] at hi
    rw [List.getElem?_drop]
    exact h.cell (o + i) (by omega)
/-- An owned row whose length is its capacity. -/
theorem row_of_owns {w : World} {base : Nat} {e : TypeId} {g n : Nat} {zs : List Nat} (h : w.ownsRow base e 1 (.slice (some ⟨g, 0, none⟩) n n) n (U zs)) : Row w g e zs := by
  rcases h.2 with ⟨h', _⟩ | ⟨g', cap', cur, h', _, hg, _, _, hs, htake⟩
  · simp at h'
  · simp only [Value.slice.injEq, Option.some.injEq, Addr.mk.injEq, and_true, true_and] at h'
    obtain ⟨rfl, rfl⟩ := h'
    rw [Nat.mul_one] at hs htake
    rw [List.take_of_length_le (by simp [hs])] at htake
    refine ⟨?_⟩
    rw [hg, ← htake]
/-- What is owned reads as its bytes, and lies in new memory. -/
theorem sl_of_owns {w : World} {base : Nat} {e : TypeId} {v : Value} {n : Nat} {zs : List Nat} (h : w.ownsRow base e 1 v n (U zs)) (hl : Lt zs) (hs : zs.length ≤ 140737488355328) : Sl w v zs ∧ New base v := by
  have hn : zs.length = n := by have := h.1; rw [U_length] at this; omega
  rcases h.2 with ⟨rfl, h0⟩ | ⟨g, cap, cur, rfl, hb, hg, hnc, hcm, hsz, htake⟩
  · have : zs = [] := List.eq_nil_of_length_eq_zero (by omega)
    subst this
    exact ⟨Sl.nil _, New.nil _⟩
  · refine ⟨⟨⟨some ⟨g, 0, none⟩, cap, by rw [hn], by omega, hcm, ?_, fun h => by simp at h⟩, hl, hs⟩, ?_⟩
    · by_cases hz : zs = []
      · exact .inl hz
      · refine .inr ⟨g, 0, rfl, fun i hi => ?_⟩
        rw [Nat.zero_add, cell_of_row w g i cur e (0, 0) hg]
        have h1 : (cur.toList.take (n * 1))[i]? = (U zs)[i]? := by rw [htake]
        rw [List.getElem?_take, if_pos (by omega)] at h1
        rw [← Array.getElem?_toList, h1]
        simp [U, List.getElem?_eq_getElem hi]
    · intro a l c e
      simp only [Value.slice.injEq, Option.some.injEq] at e
      rw [← e.1]; exact hb
theorem made_U (n : Nat) : (madeCells (Value.int .u8 0).cells (n * 1)).toList = U (List.replicate n 0) := by
  rw [Nat.mul_one]
  exact (toList_madeCells_one _ _).trans (by simp [U])
theorem info32 : (Try.prog.info? 5).map (fun i => (i.zero, i.size, i.bytes)) = some (some (.int .u8 0), 1, 1) := by kernel_rfl
theorem U_append (xs ys : List Nat) : U (xs ++ ys) = U xs ++ U ys := by simp [U]
theorem U_one (xs : List Nat) : ∀ u ∈ U xs, u.oneCell' = true := by
  intro u hu
  obtain ⟨_, _, rfl⟩ := List.mem_map.1 hu
  rfl
theorem At.news {w : World} {a : Addr} {ys : List Nat} (h : At w (some a) ys) : ∀ j u, (U ys)[j]? = some u → w.cell? (a.add j) = some u := by
  intro j u hu
  have hj : j < ys.length := by have := (List.getElem?_eq_some_iff.1 hu).1; rwa [U_length] at this
  obtain ⟨b, off, e, hc⟩ := h.cells (by omega)
  obtain rfl := Option.some.inj e
  rw [Addr.add_lit, hc j hj]
  simpa [U, List.getElem?_eq_getElem hj] using hu
/-- append of bytes to a slice of the call's own. -/
theorem wpList_app {w : World} {ops : Array Oper} {rest : List Oper} {o : Oper} {a : Act} {Q : Exit → Act → World → Prop} (hgd : o.guard = none) (s x : Operand) (t : TypeId)
    (ho : o.op = .call { callee := .builtin .append, args := #[s, x], argTypes := #[t, t] }) (ht : Try.prog.underlying t = some (.slice 5)) (base : Nat)
    (v : Value) (n : Nat) (zs : List Nat) (hs : a.eval s = v) (hown : w.ownsRow base 5 1 v n (U zs))
    (ao : Option Addr) (m c : Nat) (ys : List Nat) (hx : a.eval x = .slice ao m c) (hm : ys.length = m) (hat : At w ao ys) (hno : ao = none → c = 0)
    (hsum : n + m ≤ 140737488355328) (hbase : base ≤ w.heap.size)
    (h : ∀ v' w', w'.ownsRow base 5 1 v' (n + m) (U (zs ++ ys)) → w.grownBy w' v.ownBlock → wpList Try.prog ops Q rest (a.put o.dst v') w') : wpList Try.prog ops Q (o :: rest) a w := by
  obtain ⟨i0, hi, hz0, hz1, hz2⟩ := info_parts info32
  cases ao with
  | none =>
    have hys : ys = [] := by
      rcases hat with h | ⟨_, _, h, _⟩
      · exact h
      · simp at h
    subst hys
    obtain rfl : m = 0 := by simpa using hm.symm
    obtain rfl := hno rfl
    exact wpList_append_own_none hgd s x t ho base 5 i0 1 ht hi v n (U zs) hs hown hx (h v w (by simpa using hown) (World.grownBy.refl _ _))
  | some ad =>
    refine wpList_append_own w hgd s x t ho base 5 i0 (.int .u8 0) 1 1 ht hi hz0 hz1 hz2 rfl (by decide) v n (U zs) hs hown ad m c (U ys) hx (by rw [U_length, hm, Nat.mul_one]) hat.news (U_one _)
      (by unfold maxLen; omega) (by omega) hbase (fun v' w' h1 h2 _ => h v' w' (by rw [U_append]; exact h1) h2)
theorem mk_size : (Try.prog.info? 5).map (·.size) = some 1 := by kernel_rfl
/-- make([]byte, n). -/
theorem wpList_mk {w : World} {ops : Array Oper} {rest : List Oper} {o : Oper} {a : Act} {Q : Exit → Act → World → Prop} (hgd : o.guard = none) (l c : Operand) (t : TypeId) (hop : o.op = Op.makeSlice t l c)
    (ht : Try.prog.underlying t = some (.slice 5)) (L : Int) (n : Nat) (hl : a.eval l = .int .i64 L) (hc : a.eval c = .int .i64 L) (hL : L = (n : Int)) (hn : n ≤ 140737488355328)
    (hK : ∀ w', Row w' w.heap.size 5 (List.replicate n 0) → Kp w w' → wpList Try.prog ops Q rest (a.put o.dst (.slice (some ⟨w.heap.size, 0, none⟩) n n)) w') :
    wpList Try.prog ops Q (o :: rest) a w := by
  obtain ⟨i0, hi, hz0, hz1, hz2⟩ := info_parts info32
  refine wpList_make_full w hgd l c t hop w.heap.size 5 i0 (.int .u8 0) 1 ht hi hz0 hz1 .i64 .i64 L L n hl hc hL hL (by rw [hz2]; omega) (by unfold maxLen; omega) (Nat.le_refl _) ?_
  intro w' h1 h2
  rw [made_U] at h1
  exact hK w' (row_of_owns h1) (Below.grown (Below.refl _ _) h2 (Nat.le_refl _) (by simp))
/-- copy of bytes to the beginning of a row. -/
theorem wpList_cp {w : World} {ops : Array Oper} {rest : List Oper} {o : Oper} {a : Act} {Q : Exit → Act → World → Prop} (hgd : o.guard = none) (d s : Operand) (dT sT : TypeId)
    (ho : o.op = .call { callee := .builtin .copy, args := #[d, s], argTypes := #[dT, sT] }) (hu : Try.prog.underlying dT = some (.slice 5))
    (g n cap : Nat) (t : TypeId) (zs ys : List Nat) (v : Value) (hd : a.eval d = .slice (some ⟨g, 0, none⟩) n cap) (hs : a.eval s = v) (hsl : Sl w v ys) (hle : ys.length ≤ n) (hz : n ≤ zs.length) (hrow : Row w g t zs)
    (hK : ∀ w', Row w' g t (ys ++ zs.drop ys.length) → Only g w w' → wpList Try.prog ops Q rest (a.put o.dst (goInt ys.length)) w') : wpList Try.prog ops Q (o :: rest) a w := by
  obtain ⟨⟨ao, c, rfl, h2, h3, h4, h5⟩, hl, hsm⟩ := hsl
  by_cases h0 : ys = []
  · subst h0
    refine wpList_copy_nothing hgd d s dT sT ho 5 hu mk_size (some ⟨g, 0, none⟩) ao n cap _ c hd hs (by simp) ?_
    exact hK w (by simpa using hrow) (Only.refl _ _)
  · obtain ⟨b, off, rfl, hc⟩ := h4.cells (List.length_pos_iff.2 h0)
    refine wpList_copy_own hgd d s dT sT ho 5 hu mk_size g 0 n cap ⟨b, off, none⟩ ys.length c hd hs _ t hrow.blk (U ys) (by rw [U_length]; exact (Nat.min_eq_left hle).symm) h4.news (by simp [U_length]; omega) (U_one _) ?_
    rw [U_length]
    refine hK _ ⟨?_⟩ ⟨rfl, rfl, rfl, by simp, fun k hk => setRow_other w g k _ hk⟩
    rw [setRow_heap w g _ _ t _ hrow.blk]
    simp [U]
theorem Kp.grown {w w' : World} {row : Option Nat} (h : w.grownBy w' row) (hr : ∀ k, row = some k → w.heap.size ≤ k) : Kp w w' := Below.grown (Below.refl _ _) h (Nat.le_refl _) hr
/-- Cutting a slice. -/
theorem Addr_add (b off k : Nat) : (⟨b, off, none⟩ : Addr).add k = ⟨b, off + k, none⟩ := by
  unfold Addr.add
  by_cases h : k = 0
  · subst h; rfl
  · rw [if_neg h]
theorem At.cut {w : World} {ao : Option Addr} {xs : List Nat} (h : At w ao xs) (cap l m : Nat) (hm : m ≤ cap) : At w (if cap = l then ao else ao.map (·.add (l * 1))) ((xs.take m).drop l) := by
  by_cases he : (xs.take m).drop l = []
  · exact .inl he
  · have hlen := List.length_pos_iff.2 he
    rw [List.length_drop, List.length_take] at hlen
    rcases h with rfl | ⟨b, off, rfl, h⟩
    · simp at he
    · rw [if_neg (by omega)]
      refine .inr ⟨b, off + l, by simp [Addr_add], fun i hi => ?_⟩
      rw [List.length_drop, List.length_take] at hi
      rw [List.getElem?_drop, List.getElem?_take, if_pos (by omega), Nat.add_assoc]
      exact h (l + i) (by omega)
theorem Sl.cut {w : World} {ao : Option Addr} {n cap : Nat} {xs : List Nat} (h : Sl w (.slice ao n cap) xs) (l m : Nat) (hlm : l ≤ m) (hm : m ≤ n) : Sl w (sliced ao l m cap 1) ((xs.take m).drop l) := by
  obtain ⟨⟨ao', cap', h1, h2, h3, h4, h5⟩, hl, hs⟩ := h
  simp only [Value.slice.injEq] at h1
  obtain ⟨rfl, rfl, rfl⟩ := h1
  have e : ((xs.take m).drop l).length = m - l := by rw [List.length_drop, List.length_take]; omega
  refine ⟨⟨_, cap - l, by rw [e]; rfl, by omega, by omega, h4.cut cap l m (by omega), fun hn => ?_⟩, (hl.take m).drop l, by omega⟩
  split at hn
  · have := h5 hn; omega
  · rw [Option.map_eq_none_iff] at hn
    have := h5 hn; omega
theorem Sl.open3 {w : World} {v : Value} {xs : List Nat} (h : Sl w v xs) : ∃ ao cap, v = .slice ao xs.length cap ∧ xs.length ≤ cap ∧ cap ≤ maxLen ∧ (ao = none → cap = 0) := by
  obtain ⟨⟨ao, cap, h1, h2, h3, h4, h5⟩, hl, hs⟩ := h
  exact ⟨ao, cap, h1, h2, h3, h5⟩
end By
end Go.Proofs.Ytlfoikjbbbhbdaa
