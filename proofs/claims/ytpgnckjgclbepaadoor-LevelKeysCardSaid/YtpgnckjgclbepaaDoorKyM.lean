/- Keys in memory: slices that read as keys. No condition. -/
import Derived.Test.YtpgnckjgclbepaaDoorKyN
import Derived.Test.YtpgnckjgclbepaaDoorTape
namespace Go.Proofs.YtpgnckjgclbepaaDoor
namespace By
open Go.RowKit WireN LexN RevN KeyN
set_option linter.unusedVariables false
set_option linter.unusedSimpArgs false

theorem row_frm {W : World} {base : Nat} {e : TypeId} {size : Nat} {v : Value} {n : Nat} {cs : List Value} (h : W.ownsRow base e size v n cs) : (∃ ao l c, v = .slice ao l c) ∧ ∀ g, v.ownBlock = some g → base ≤ g ∧ g < W.heap.size := by
  refine ⟨?_, fun g hg => h.lt g hg⟩
  rcases h.2 with ⟨rfl, _⟩ | ⟨g', cap', cur, rfl, _⟩
  · exact ⟨_, _, _, rfl⟩
  · exact ⟨_, _, _, rfl⟩
theorem toList_stk (l : List Nat) : (st l).toList = l.map fun n => UInt8.ofNat n := by
  rw [ByteArray.toList_eq]
  simp [st]
theorem less_mapk : ∀ {a b : List Nat}, (∀ x ∈ a, x < 256) → (∀ x ∈ b, x < 256) → Op.bytesLess (a.map fun n => UInt8.ofNat n) (b.map fun n => UInt8.ofNat n) = lss a b
  | a, [], _, _ => by rw [lss_nil]; cases a <;> rfl
  | [], y :: b, _, _ => rfl
  | x :: a, y :: b, ha, hb => by
    have hx : x < 256 := ha x List.mem_cons_self
    have hy : y < 256 := hb y List.mem_cons_self
    have ih := less_mapk (a := a) (b := b) (fun z hz => ha z (List.mem_cons_of_mem _ hz)) (fun z hz => hb z (List.mem_cons_of_mem _ hz))
    have h1 : (decide (UInt8.ofNat x < UInt8.ofNat y)) = decide (x < y) := by
      rw [decide_eq_decide, UInt8.lt_iff_toNat_lt]
      simp; omega
    have h2 : (UInt8.ofNat x == UInt8.ofNat y) = (x == y) := by
      rw [Bool.eq_iff_iff, beq_iff_eq, beq_iff_eq, ← UInt8.toNat_inj]
      simp; omega
    simp only [List.map_cons, Op.bytesLess, lss, ih, h1, h2]
/-- The order of strings in memory. -/
theorem less_stk {a b : List Nat} (ha : Lt a) (hb : Lt b) : Op.bytesLess (st a).toList (st b).toList = lss a b := by
  rw [toList_stk, toList_stk]
  exact less_mapk (fun x hx => ha.mem hx) (fun x hx => hb.mem hx)
theorem st_injk {xs ys : List Nat} (hx : Lt xs) (hy : Lt ys) : st xs = st ys ↔ xs = ys := by
  constructor
  · intro h
    rw [← bs_st hx, ← bs_st hy, h]
  · intro h; rw [h]
theorem st_eqk {xs ys : List Nat} (hx : Lt xs) (hy : Lt ys) : ((st xs).toList == (st ys).toList) = decide (xs = ys) := by
  rw [Bool.eq_iff_iff, beq_iff_eq, decide_eq_true_eq]
  constructor
  · intro h
    rw [ByteArray.toList_eq, ByteArray.toList_eq] at h
    have h2 : st xs = st ys := by
      cases hx' : st xs; cases hy' : st ys
      rw [hx', hy'] at h
      simp only [ByteArray.mk.injEq]
      exact Array.toList_inj.1 h
    exact (st_injk hx hy).1 h2
  · intro h; rw [h]
/-- The three cells of a key. -/
def K3 (w : World) (b i : Nat) (x : Ky) : Prop := w.cell? ⟨b, i, none⟩ = some (.int .i64 x.1) ∧ w.cell? ⟨b, i + 1, none⟩ = some (.string (st x.2.1)) ∧ w.cell? ⟨b, i + 2, none⟩ = some (.string (st x.2.2))
theorem K3.keep {w w' : World} {b i : Nat} {x : Ky} (h : K3 w b i x) (hk : Kp w w') : K3 w' b i x := ⟨cell_kept h.1 hk, cell_kept h.2.1 hk, cell_kept h.2.2 hk⟩
/-- A key whose strings are bytes, and not too long. -/
def KyOk (x : Ky) : Prop := (Lt x.2.1 ∧ Lt x.2.2) ∧ (x.2.1.length ≤ maxLen ∧ x.2.2.length ≤ maxLen)
/-- A slice value that reads as these keys. -/
def AtK (w : World) (ao : Option Addr) (ks : List Ky) : Prop :=
  ks = [] ∨ ∃ b off, ao = some ⟨b, off, none⟩ ∧ ∀ (j : Nat) (x : Ky), ks[j]? = some x → K3 w b (off + j * 3) x
structure Kw (w : World) (v : Value) (ks : List Ky) : Prop where
  ex : ∃ ao cap, v = .slice ao ks.length cap ∧ ks.length ≤ cap ∧ cap ≤ maxLen ∧ AtK w ao ks ∧ (ao = none → cap = 0)
  ok : ∀ x ∈ ks, KyOk x
theorem AtK.keep {w w' : World} {ao : Option Addr} {ks : List Ky} (h : AtK w ao ks) (hk : Kp w w') : AtK w' ao ks := by
  rcases h with rfl | ⟨b, off, rfl, h⟩
  · exact .inl rfl
  · exact .inr ⟨b, off, rfl, fun j x hx => (h j x hx).keep hk⟩
theorem Kw.keep {w w' : World} {v : Value} {ks : List Ky} (h : Kw w v ks) (hk : Kp w w') : Kw w' v ks := by
  obtain ⟨⟨ao, cap, h1, h2, h3, h4, h5⟩, hl⟩ := h
  exact ⟨⟨ao, cap, h1, h2, h3, h4.keep hk, h5⟩, hl⟩
theorem Kw.nil (w : World) : Kw w (.slice none 0 0) [] := ⟨⟨none, 0, rfl, Nat.le_refl _, Nat.zero_le _, .inl rfl, fun _ => rfl⟩, fun f h => by simp at h⟩
theorem Kw.open3 {w : World} {v : Value} {ks : List Ky} (h : Kw w v ks) : ∃ ao cap, v = .slice ao ks.length cap ∧ ks.length ≤ cap ∧ cap ≤ maxLen ∧ (ao = none → cap = 0) := by
  obtain ⟨⟨ao, cap, h1, h2, h3, h4, h5⟩, hl⟩ := h
  exact ⟨ao, cap, h1, h2, h3, h5⟩
theorem Kw.only {w w' : World} {v : Value} {ks : List Ky} {g : Nat} (h : Kw w v ks) (ho : Only g w w') (hne : ∀ b, v.ownBlock = some b → b ≠ g) : Kw w' v ks := by
  obtain ⟨⟨ao, cap, rfl, h2, h3, h4, h5⟩, hl⟩ := h
  refine ⟨⟨ao, cap, rfl, h2, h3, ?_, h5⟩, hl⟩
  rcases h4 with h4 | ⟨b, off, rfl, hc⟩
  · exact .inl h4
  · have hb : b ≠ g := hne b rfl
    refine .inr ⟨b, off, rfl, fun j f hf => ?_⟩
    have hh := ho.block b hb
    obtain ⟨c0, c1, c2⟩ := hc j f hf
    unfold K3
    unfold World.cell? at c0 c1 c2 ⊢
    rw [hh]
    exact ⟨c0, c1, c2⟩
/-- The cells of the keys. -/
theorem Kw.cell {w : World} {ao : Option Addr} {n cap : Nat} {ks : List Ky} (h : Kw w (.slice ao n cap) ks) (hn : 0 < n) :
    ∃ b off, ao = some ⟨b, off, none⟩ ∧ ∀ (j : Nat) (x : Ky), ks[j]? = some x → K3 w b (off + j * 3) x := by
  obtain ⟨⟨ao', cap', h1, h2, h3, h4, h5⟩, hl⟩ := h
  simp only [Value.slice.injEq] at h1
  obtain ⟨rfl, rfl, rfl⟩ := h1
  rcases h4 with rfl | h4
  · simp at hn
  · exact h4
/-- The cells of keys in a row of one's own. -/
def kcel (ks : List Ky) : List Value := ks.flatMap fun x => [.int .i64 x.1, .string (st x.2.1), .string (st x.2.2)]
theorem kcel_len (ks : List Ky) : (kcel ks).length = 3 * ks.length := by
  induction ks with
  | nil => rfl
  | cons f fs ih => simp only [kcel, List.flatMap_cons, List.length_append, List.length_cons, List.length_nil] at ih ⊢; omega
theorem kcel_app (fs gs : List Ky) : kcel (fs ++ gs) = kcel fs ++ kcel gs := by simp [kcel]
theorem kcel_snoc (fs : List Ky) (x : Ky) : kcel (fs ++ [x]) = kcel fs ++ [.int .i64 x.1, .string (st x.2.1), .string (st x.2.2)] := by simp [kcel]
theorem kcel_at : ∀ (fs : List Ky) (j : Nat) (x : Ky), fs[j]? = some x → (kcel fs)[j * 3]? = some (.int .i64 x.1) ∧ (kcel fs)[j * 3 + 1]? = some (.string (st x.2.1)) ∧ (kcel fs)[j * 3 + 2]? = some (.string (st x.2.2))
  | [], j, x, h => by simp at h
  | g :: fs, 0, x, h => by
    simp at h
    subst h
    exact ⟨rfl, rfl, rfl⟩
  | g :: fs, j + 1, x, h => by
    have := kcel_at fs j x (by simpa using h)
    rw [show (j + 1) * 3 = j * 3 + 1 + 1 + 1 by omega]
    simpa [kcel] using this
structure OwK (w wr : World) (v : Value) (ks : List Ky) : Prop where
  owns : wr.ownsRow w.heap.size 29 3 v ks.length (kcel ks)
  ok : ∀ x ∈ ks, KyOk x
  kp : Kp w wr
theorem OwK.start (w : World) : OwK w w (.slice none 0 0) [] := ⟨World.ownsRow_nil _ _ _ _, fun f h => by simp at h, Kp.refl _⟩
theorem OwK.base {w0 w wr : World} {v : Value} {ks : List Ky} (h : OwK w wr v ks) (hk : Kp w0 w) : OwK w0 wr v ks := by
  refine ⟨?_, h.ok, Kp.trans hk h.kp⟩
  refine ⟨h.owns.1, ?_⟩
  rcases h.owns.2 with h2 | ⟨g, cap, cur, e1, e2, e3⟩
  · exact .inl h2
  · exact .inr ⟨g, cap, cur, e1, Nat.le_trans hk.size e2, e3⟩
theorem OwK.keep {w wr w1 : World} {v : Value} {ks : List Ky} (h : OwK w wr v ks) (hk : Kp wr w1) : OwK w w1 v ks := by
  refine ⟨?_, h.ok, Kp.trans h.kp hk⟩
  refine World.ownsRow.kept (row := none) h.owns ⟨hk.os, hk.tape, hk.output, hk.size, fun i hi _ => hk.block i hi⟩ ?_
  rcases h.owns.2 with ⟨rfl, _⟩ | ⟨g', cap', cur, rfl, hb', _⟩
  · exact .inl rfl
  · right; intro e; simp [Value.ownBlock] at e
theorem OwK.kw {w wr : World} {v : Value} {ks : List Ky} (h : OwK w wr v ks) : Kw wr v ks := by
  refine ⟨?_, h.ok⟩
  rcases h.owns.2 with ⟨rfl, h0⟩ | ⟨g, cap, cur, rfl, hb, hg, hnc, hcm, hsz, htake⟩
  · exact ⟨none, 0, by rw [h0], by omega, by unfold maxLen; omega, .inl (List.length_eq_zero_iff.1 h0), fun _ => rfl⟩
  · refine ⟨some ⟨g, 0, none⟩, cap, rfl, hnc, hcm, .inr ⟨g, 0, rfl, fun j f hf => ?_⟩, fun h => nomatch h⟩
    have hj : j < ks.length := (List.getElem?_eq_some_iff.1 hf).1
    obtain ⟨h1, h2, h3⟩ := kcel_at ks j f hf
    have hcl := kcel_len ks
    refine ⟨?_, ?_, ?_⟩
    · rw [Nat.zero_add, cell_of_row wr g (j * 3) cur _ (0, 0) hg]
      rw [← htake, List.getElem?_take, if_pos (by omega)] at h1
      simpa using h1
    · rw [Nat.zero_add, cell_of_row wr g (j * 3 + 1) cur _ (0, 0) hg]
      rw [← htake, List.getElem?_take, if_pos (by omega)] at h2
      simpa using h2
    · rw [Nat.zero_add, cell_of_row wr g (j * 3 + 2) cur _ (0, 0) hg]
      rw [← htake, List.getElem?_take, if_pos (by omega)] at h3
      simpa using h3
theorem OwK.only {w wr w1 : World} {v : Value} {ks : List Ky} {g : Nat} (h : OwK w wr v ks) (ho : Only g wr w1) (hg : w.heap.size ≤ g) (hne : ∀ b, v.ownBlock = some b → b ≠ g) : OwK w w1 v ks := by
  refine ⟨?_, h.ok, Only.kp h.kp ho hg⟩
  refine World.ownsRow.kept (row := some g) h.owns ⟨ho.os, ho.tape, ho.output, Nat.le_of_eq ho.size, fun i hi hn => ho.block i (fun e => hn (by rw [e]))⟩ ?_
  rcases h.owns.2 with ⟨rfl, _⟩ | ⟨g', cap', cur, rfl, hb', _⟩
  · exact .inl rfl
  · right; intro e; exact hne g' rfl (by simpa [Value.ownBlock] using e)
theorem OwK.newer {w wr : World} {v : Value} {ks : List Ky} (h : OwK w wr v ks) : ∀ b, v.ownBlock = some b → w.heap.size ≤ b := fun b hb => ((row_frm h.owns).2 b hb).1
theorem infoKey : (Tryd.prog.info? 29).map (fun i => (i.zero, i.size, i.bytes)) = some (some (.agg #[.int .i64 0, .string ⟨#[]⟩, .string ⟨#[]⟩]), 3, 40) := by kernel_rfl
/-- append of a key to a row of one's own. -/
theorem wpList_ky {w wx : World} {ops : Array Oper} {rest : List Oper} {o : Oper} {a : Act} {Q : Exit → Act → World → Prop} (hgd : o.guard = none) (s x : Operand)
    (ho : o.op = .call { callee := .builtin .append, args := #[s, x], argTypes := #[23, 23] })
    (v : Value) {ks : List Ky} (hs : a.eval s = v) (hown : OwK w wx v ks) (hsm : ks.length ≤ 1000000) (k : Ky) (hf : KyOk k) (g : Nat) (hx : a.eval x = .slice (some ⟨g, 0, none⟩) 1 1)
    (hc : Blk wx g 29 #[.int .i64 k.1, .string (st k.2.1), .string (st k.2.2)])
    (h : ∀ v' w', OwK w w' v' (ks ++ [k]) → wx.grownBy w' v.ownBlock → (v'.ownBlock = v.ownBlock ∨ v'.ownBlock = some wx.heap.size) → wpList Tryd.prog ops Q rest (a.put o.dst v') w') : wpList Tryd.prog ops Q (o :: rest) a wx := by
  obtain ⟨i, hi, hz, hsize, hby⟩ := info_parts infoKey
  refine wpList_append_own_at (P := Tryd.prog) wx hgd s x _ ho w.heap.size _ i _ 3 40 Tryd.underlying23 hi hz hsize hby rfl (by omega) v ks.length (kcel ks) hs hown.owns ⟨g, 0, none⟩ 1 1 [.int .i64 k.1, .string (st k.2.1), .string (st k.2.2)] hx rfl ?_ ?_ (by unfold maxLen; omega) (by omega) hown.kp.size ?_
  · intro j u hu
    rw [Addr.add_lit]
    refine hc.cell (0 + j) ?_
    rw [Nat.zero_add]
    simpa using hu
  · intro u hu
    simp at hu
    rcases hu with rfl | rfl | rfl <;> rfl
  · intro v' w' h1 h2 h3 h4
    refine h v' w' ⟨?_, ?_, Below.grown hown.kp h2 hown.kp.size (fun k hk => ((row_frm hown.owns).2 k hk).1)⟩ h2 h4
    · rw [List.length_append, kcel_snoc]; exact h1
    · intro y hy
      rcases List.mem_append.1 hy with hy | hy
      · exact hown.ok y hy
      · obtain rfl : y = k := by simpa using hy
        exact hf
end By
end Go.Proofs.YtpgnckjgclbepaaDoor
