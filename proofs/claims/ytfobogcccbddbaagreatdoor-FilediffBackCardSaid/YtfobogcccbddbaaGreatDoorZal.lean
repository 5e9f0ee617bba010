/- Changes in memory: slices that read as changes, and rows of one's own. No condition. -/
import Derived.Test.YtfobogcccbddbaaGreatDoorZak
import Derived.Test.YtfobogcccbddbaaGreatDoorZab
import Derived.Deep.QuietTactic
import Derived.Deep.RegionWith
import Derived.BigQuiet
import Derived.Test.YtfobogcccbddbaaGreatDoorZba
namespace Go.Proofs.YtfobogcccbddbaaGreatDoor
namespace By
open Go.RowKit WireN LexN RevN FdN
set_option linter.unusedVariables false
set_option linter.unusedSimpArgs false

/-- The four cells of a change. -/
def C4 (w : World) (b i : Nat) (x : Ch) : Prop := w.cell? ⟨b, i, none⟩ = some (.int .i64 x.1) ∧ w.cell? ⟨b, i + 1, none⟩ = some (.string (st x.2.1)) ∧ w.cell? ⟨b, i + 2, none⟩ = some (.string (st x.2.2.1)) ∧ w.cell? ⟨b, i + 3, none⟩ = some (.string (st x.2.2.2))
theorem C4.keep {w w' : World} {b i : Nat} {x : Ch} (h : C4 w b i x) (hk : Kp w w') : C4 w' b i x := ⟨cell_kept h.1 hk, cell_kept h.2.1 hk, cell_kept h.2.2.1 hk, cell_kept h.2.2.2 hk⟩
/-- A change whose kind is a number of the language, whose strings are bytes, and not too long. -/
def ChOk (x : Ch) : Prop := (-9223372036854775808 ≤ x.1 ∧ x.1 ≤ 9223372036854775807) ∧ (Lt x.2.1 ∧ Lt x.2.2.1 ∧ Lt x.2.2.2) ∧ (x.2.1.length ≤ 140737488355328 ∧ x.2.2.1.length ≤ 140737488355328 ∧ x.2.2.2.length ≤ 140737488355328)
/-- A slice value that reads as these changes. -/
def AtC (w : World) (ao : Option Addr) (ks : List Ch) : Prop :=
  ks = [] ∨ ∃ b off, ao = some ⟨b, off, none⟩ ∧ ∀ (j : Nat) (x : Ch), ks[j]? = some x → C4 w b (off + j * 4) x
structure Cw (w : World) (v : Value) (ks : List Ch) : Prop where
  ex : ∃ ao cap, v = .slice ao ks.length cap ∧ ks.length ≤ cap ∧ cap ≤ maxLen ∧ AtC w ao ks ∧ (ao = none → cap = 0)
  ok : ∀ x ∈ ks, ChOk x
theorem AtC.keep {w w' : World} {ao : Option Addr} {ks : List Ch} (h : AtC w ao ks) (hk : Kp w w') : AtC w' ao ks := by
  rcases h with rfl | ⟨b, off, rfl, h⟩
  · exact .inl rfl
  · exact .inr ⟨b, off, rfl, fun j x hx => (h j x hx).keep hk⟩
theorem Cw.keep {w w' : World} {v : Value} {ks : List Ch} (h : Cw w v ks) (hk : Kp w w') : Cw w' v ks := by
  obtain ⟨⟨ao, cap, h1, h2, h3, h4, h5⟩, hl⟩ := h
  exact ⟨⟨ao, cap, h1, h2, h3, h4.keep hk, h5⟩, hl⟩
theorem Cw.nil (w : World) : Cw w (.slice none 0 0) [] := ⟨⟨none, 0, rfl, Nat.le_refl _, Nat.zero_le _, .inl rfl, fun _ => rfl⟩, fun f h => by simp at h⟩
theorem Cw.open3 {w : World} {v : Value} {ks : List Ch} (h : Cw w v ks) : ∃ ao cap, v = .slice ao ks.length cap ∧ ks.length ≤ cap ∧ cap ≤ maxLen ∧ (ao = none → cap = 0) := by
  obtain ⟨⟨ao, cap, h1, h2, h3, h4, h5⟩, hl⟩ := h
  exact ⟨ao, cap, h1, h2, h3, h5⟩
theorem Cw.only {w w' : World} {v : Value} {ks : List Ch} {g : Nat} (h : Cw w v ks) (ho : Only g w w') (hne : ∀ b, v.ownBlock = some b → b ≠ g) : Cw w' v ks := by
  obtain ⟨⟨ao, cap, rfl, h2, h3, h4, h5⟩, hl⟩ := h
  refine ⟨⟨ao, cap, rfl, h2, h3, ?_, h5⟩, hl⟩
  rcases h4 with h4 | ⟨b, off, rfl, hc⟩
  · exact .inl h4
  · have hb : b ≠ g := hne b rfl
    refine .inr ⟨b, off, rfl, fun j f hf => ?_⟩
    have hh := ho.block b hb
    obtain ⟨c0, c1, c2, c3⟩ := hc j f hf
    unfold C4
    unfold World.cell? at c0 c1 c2 c3 ⊢
    rw [hh]
    exact ⟨c0, c1, c2, c3⟩
/-- The cells of the changes. -/
theorem Cw.cell {w : World} {ao : Option Addr} {n cap : Nat} {ks : List Ch} (h : Cw w (.slice ao n cap) ks) (hn : 0 < n) :
    ∃ b off, ao = some ⟨b, off, none⟩ ∧ ∀ (j : Nat) (x : Ch), ks[j]? = some x → C4 w b (off + j * 4) x := by
  obtain ⟨⟨ao', cap', h1, h2, h3, h4, h5⟩, hl⟩ := h
  simp only [Value.slice.injEq] at h1
  obtain ⟨rfl, rfl, rfl⟩ := h1
  rcases h4 with rfl | h4
  · simp at hn
  · exact h4
/-- The cells of changes in a row of one's own. -/
def ccel (ks : List Ch) : List Value := ks.flatMap fun x => [.int .i64 x.1, .string (st x.2.1), .string (st x.2.2.1), .string (st x.2.2.2)]
theorem ccel_len (ks : List Ch) : (ccel ks).length = 4 * ks.length := by
  induction ks with
  | nil => rfl
  | cons f fs ih => simp only [ccel, List.flatMap_cons, List.length_append, List.length_cons, List.length_nil] at ih ⊢; omega
theorem ccel_app (fs gs : List Ch) : ccel (fs ++ gs) = ccel fs ++ ccel gs := by simp [ccel]
theorem ccel_snoc (fs : List Ch) (x : Ch) : ccel (fs ++ [x]) = ccel fs ++ [.int .i64 x.1, .string (st x.2.1), .string (st x.2.2.1), .string (st x.2.2.2)] := by simp [ccel]
theorem ccel_at : ∀ (fs : List Ch) (j : Nat) (x : Ch), fs[j]? = some x → (ccel fs)[j * 4]? = some (.int .i64 x.1) ∧ (ccel fs)[j * 4 + 1]? = some (.string (st x.2.1)) ∧ (ccel fs)[j * 4 + 2]? = some (.string (st x.2.2.1)) ∧ (ccel fs)[j * 4 + 3]? = some (.string (st x.2.2.2))
  | [], j, x, h => by simp at h
  | g :: fs, 0, x, h => by
    simp at h
    subst h
    exact ⟨rfl, rfl, rfl, rfl⟩
  | g :: fs, j + 1, x, h => by
    have := ccel_at fs j x (by simpa using h)
    rw [show (j + 1) * 4 = j * 4 + 1 + 1 + 1 + 1 by omega]
    simpa [ccel] using this
structure OwC (w wr : World) (v : Value) (ks : List Ch) : Prop where
  owns : wr.ownsRow w.heap.size 50 4 v ks.length (ccel ks)
  ok : ∀ x ∈ ks, ChOk x
  kp : Kp w wr
theorem OwC.start (w : World) : OwC w w (.slice none 0 0) [] := ⟨World.ownsRow_nil _ _ _ _, fun f h => by simp at h, Kp.refl _⟩
theorem OwC.base {w0 w wr : World} {v : Value} {ks : List Ch} (h : OwC w wr v ks) (hk : Kp w0 w) : OwC w0 wr v ks := by
  refine ⟨?_, h.ok, Kp.trans hk h.kp⟩
  refine ⟨h.owns.1, ?_⟩
  rcases h.owns.2 with h2 | ⟨g, cap, cur, e1, e2, e3⟩
  · exact .inl h2
  · exact .inr ⟨g, cap, cur, e1, Nat.le_trans hk.size e2, e3⟩
theorem OwC.keep {w wr w1 : World} {v : Value} {ks : List Ch} (h : OwC w wr v ks) (hk : Kp wr w1) : OwC w w1 v ks := by
  refine ⟨?_, h.ok, Kp.trans h.kp hk⟩
  refine World.ownsRow.kept (row := none) h.owns ⟨hk.os, hk.tape, hk.output, hk.size, fun i hi _ => hk.block i hi⟩ ?_
  rcases h.owns.2 with ⟨rfl, _⟩ | ⟨g', cap', cur, rfl, hb', _⟩
  · exact .inl rfl
  · right; intro e; simp [Value.ownBlock] at e
theorem OwC.cw {w wr : World} {v : Value} {ks : List Ch} (h : OwC w wr v ks) : Cw wr v ks := by
  refine ⟨?_, h.ok⟩
  rcases h.owns.2 with ⟨rfl, h0⟩ | ⟨g, cap, cur, rfl, hb, hg, hnc, hcm, hsz, htake⟩
  · exact ⟨none, 0, by rw [h0], by omega, by unfold maxLen; omega, .inl (List.length_eq_zero_iff.1 h0), fun _ => rfl⟩
  · refine ⟨some ⟨g, 0, none⟩, cap, rfl, hnc, hcm, .inr ⟨g, 0, rfl, fun j f hf => ?_⟩, fun h => nomatch h⟩
    have hj : j < ks.length := (List.getElem?_eq_some_iff.1 hf).1
    obtain ⟨h1, h2, h3, h4⟩ := ccel_at ks j f hf
    have hcl := ccel_len ks
    refine ⟨?_, ?_, ?_, ?_⟩
    · rw [Nat.zero_add, cell_of_row wr g (j * 4) cur _ (0, 0) hg]
      rw [← htake, List.getElem?_take, if_pos (by omega)] at h1
      simpa using h1
    · rw [Nat.zero_add, cell_of_row wr g (j * 4 + 1) cur _ (0, 0) hg]
      rw [← htake, List.getElem?_take, if_pos (by omega)] at h2
      simpa using h2
    · rw [Nat.zero_add, cell_of_row wr g (j * 4 + 2) cur _ (0, 0) hg]
      rw [← htake, List.getElem?_take, if_pos (by omega)] at h3
      simpa using h3
    · rw [Nat.zero_add, cell_of_row wr g (j * 4 + 3) cur _ (0, 0) hg]
      rw [← htake, List.getElem?_take, if_pos (by omega)] at h4
      simpa using h4
theorem OwC.only {w wr w1 : World} {v : Value} {ks : List Ch} {g : Nat} (h : OwC w wr v ks) (ho : Only g wr w1) (hg : w.heap.size ≤ g) (hne : ∀ b, v.ownBlock = some b → b ≠ g) : OwC w w1 v ks := by
  refine ⟨?_, h.ok, Only.kp h.kp ho hg⟩
  refine World.ownsRow.kept (row := some g) h.owns ⟨ho.os, ho.tape, ho.output, Nat.le_of_eq ho.size, fun i hi hn => ho.block i (fun e => hn (by rw [e]))⟩ ?_
  rcases h.owns.2 with ⟨rfl, _⟩ | ⟨g', cap', cur, rfl, hb', _⟩
  · exact .inl rfl
  · right; intro e; exact hne g' rfl (by simpa [Value.ownBlock] using e)
theorem OwC.newer {w wr : World} {v : Value} {ks : List Ch} (h : OwC w wr v ks) : ∀ b, v.ownBlock = some b → w.heap.size ≤ b := fun b hb => ((row_form h.owns).2 b hb).1
theorem infoCh : (Tryz.prog.info? 50).map (fun i => (i.zero, i.size, i.bytes)) = some (some (.agg #[.int .i64 0, .string ⟨#[]⟩, .string ⟨#[]⟩, .string ⟨#[]⟩]), 4, 56) := by kernel_rfl
/-- append of a change to a row of one's own. -/
theorem wpList_ch {w wx : World} {ops : Array Oper} {rest : List Oper} {o : Oper} {a : Act} {Q : Exit → Act → World → Prop} (hgd : o.guard = none) (s x : Operand)
    (ho : o.op = .call { callee := .builtin .append, args := #[s, x], argTypes := #[33, 33] })
    (v : Value) {ks : List Ch} (hs : a.eval s = v) (hown : OwC w wx v ks) (hsm : ks.length ≤ 1000000) (k : Ch) (hf : ChOk k) (g : Nat) (hx : a.eval x = .slice (some ⟨g, 0, none⟩) 1 1)
    (hc : Blk wx g 50 #[.int .i64 k.1, .string (st k.2.1), .string (st k.2.2.1), .string (st k.2.2.2)])
    (h : ∀ v' w', OwC w w' v' (ks ++ [k]) → wx.grownBy w' v.ownBlock → (v'.ownBlock = v.ownBlock ∨ v'.ownBlock = some wx.heap.size) → wpList Tryz.prog ops Q rest (a.put o.dst v') w') : wpList Tryz.prog ops Q (o :: rest) a wx := by
  obtain ⟨i, hi, hz, hsize, hby⟩ := info_parts infoCh
  refine wpList_append_own_at (P := Tryz.prog) wx hgd s x _ ho w.heap.size _ i _ 4 56 Tryz.underlying33 hi hz hsize hby rfl (by omega) v ks.length (ccel ks) hs hown.owns ⟨g, 0, none⟩ 1 1 [.int .i64 k.1, .string (st k.2.1), .string (st k.2.2.1), .string (st k.2.2.2)] hx rfl ?_ ?_ (by unfold maxLen; omega) (by omega) hown.kp.size ?_
  · intro j u hu
    rw [Addr.add_lit]
    refine hc.cell (0 + j) ?_
    rw [Nat.zero_add]
    simpa using hu
  · intro u hu
    simp at hu
    rcases hu with rfl | rfl | rfl | rfl <;> rfl
  · intro v' w' h1 h2 h3 h4
    refine h v' w' ⟨?_, ?_, Below.grown hown.kp h2 hown.kp.size (fun k hk => ((row_form hown.owns).2 k hk).1)⟩ h2 h4
    · rw [List.length_append, ccel_snoc]; exact h1
    · intro y hy
      rcases List.mem_append.1 hy with hy | hy
      · exact hown.ok y hy
      · obtain rfl : y = k := by simpa using hy
        exact hf
end By
end Go.Proofs.YtfobogcccbddbaaGreatDoor

/- A row of changes that is the call's own, changed in place; the builtin copy within it. No condition. -/
namespace Go.Proofs.YtfobogcccbddbaaGreatDoor
namespace By
open Go.RowKit WireN LexN RevN FdN
set_option linter.unusedVariables false
set_option linter.unusedSimpArgs false

/-- Block g begins with these changes. -/
def RC (w : World) (g : Nat) (ks : List Ch) : Prop := ∃ rest : List Value, Blk w g 50 (ccel ks ++ rest).toArray
theorem RC.cell {w : World} {g : Nat} {ks : List Ch} (h : RC w g ks) {j : Nat} {x : Ch} (hx : ks[j]? = some x) : C4 w g (j * 4) x := by
  obtain ⟨rest, hb⟩ := h
  obtain ⟨c0, c1, c2, c3⟩ := ccel_at ks j x hx
  have e : ∀ (i : Nat) (v : Value), (ccel ks)[i]? = some v → (ccel ks ++ rest).toArray[i]? = some v := by
    intro i v hv
    have hi := (List.getElem?_eq_some_iff.1 hv).1
    simp only [List.getElem?_toArray]
    rw [List.getElem?_append_left hi]
    exact hv
  exact ⟨hb.cell _ (e _ _ c0), hb.cell _ (e _ _ c1), hb.cell _ (e _ _ c2), hb.cell _ (e _ _ c3)⟩
theorem RC.keep {w w' : World} {g : Nat} {ks : List Ch} (h : RC w g ks) (hk : Kp w w') : RC w' g ks := by
  obtain ⟨rest, hb⟩ := h
  exact ⟨rest, hb.keep hk⟩
theorem RC.lt {w : World} {g : Nat} {ks : List Ch} (h : RC w g ks) : g < w.heap.size := by
  obtain ⟨rest, hb⟩ := h
  exact hb.lt
theorem RC.free {w : World} {g : Nat} {ks : List Ch} (h : RC w g ks) (i : Nat) : w.frozen? ⟨g, i, none⟩ = false := by
  obtain ⟨rest, hb⟩ := h
  exact hb.free i
/-- The cells behind a store of a change. -/
theorem ccel_set : ∀ (ks : List Ch) (i : Nat) (x : Ch), i < ks.length → ((((ccel ks).set (i * 4) (.int .i64 x.1)).set (i * 4 + 1) (.string (st x.2.1))).set (i * 4 + 2) (.string (st x.2.2.1))).set (i * 4 + 3) (.string (st x.2.2.2)) = ccel (ks.set i x)
  | [], i, x, h => by simp at h
  | y :: ks, 0, x, _ => by simp [ccel]
  | y :: ks, i + 1, x, h => by
    have ih := ccel_set ks i x (by simpa using h)
    rw [show (i + 1) * 4 = i * 4 + 1 + 1 + 1 + 1 by omega]
    simp only [List.set_cons_succ]
    rw [← show ccel (y :: ks.set i x) = ccel (y :: ks.set i x) from rfl]
    show _ = ccel (y :: ks.set i x)
    have e : ∀ (l : List Ch), ccel (y :: l) = .int .i64 y.1 :: .string (st y.2.1) :: .string (st y.2.2.1) :: .string (st y.2.2.2) :: ccel l := fun l => rfl
    rw [e, e, ← ih]
    simp only [List.set_cons_succ, Nat.add_assoc, Nat.reduceAdd]
theorem RC.put {w : World} {g : Nat} {ks : List Ch} (h : RC w g ks) {i : Nat} (hi : i < ks.length) (x : Ch) :
    RC ((((w.setCell ⟨g, i * 4, none⟩ (.int .i64 x.1)).setCell ⟨g, i * 4 + 1, none⟩ (.string (st x.2.1))).setCell ⟨g, i * 4 + 2, none⟩ (.string (st x.2.2.1))).setCell ⟨g, i * 4 + 3, none⟩ (.string (st x.2.2.2))) g (ks.set i x) := by
  obtain ⟨rest, hb⟩ := h
  refine ⟨rest, ?_⟩
  have := (((hb.set (i * 4) (.int .i64 x.1)).set (i * 4 + 1) (.string (st x.2.1))).set (i * 4 + 2) (.string (st x.2.2.1))).set (i * 4 + 3) (.string (st x.2.2.2))
  have hl := ccel_len ks
  have e : ((((ccel ks ++ rest).toArray.setIfInBounds (i * 4) (.int .i64 x.1)).setIfInBounds (i * 4 + 1) (.string (st x.2.1))).setIfInBounds (i * 4 + 2) (.string (st x.2.2.1))).setIfInBounds (i * 4 + 3) (.string (st x.2.2.2)) = (ccel (ks.set i x) ++ rest).toArray := by
    rw [← ccel_set ks i x hi]
    simp only [List.setIfInBounds_toArray]
    rw [List.set_append_left _ _ (by omega), List.set_append_left _ _ (by simp; omega), List.set_append_left _ _ (by simp; omega), List.set_append_left _ _ (by simp; omega)]
  rw [← e]
  exact this
theorem RC.only {w : World} {g : Nat} (i : Nat) (x : Ch) : Only g w ((((w.setCell ⟨g, i * 4, none⟩ (.int .i64 x.1)).setCell ⟨g, i * 4 + 1, none⟩ (.string (st x.2.1))).setCell ⟨g, i * 4 + 2, none⟩ (.string (st x.2.2.1))).setCell ⟨g, i * 4 + 3, none⟩ (.string (st x.2.2.2))) :=
  ((((Only.refl g w).set _ _).set _ _).set _ _).set _ _
theorem RC.take {w : World} {g : Nat} {ks : List Ch} (h : RC w g ks) (n : Nat) : RC w g (ks.take n) := by
  obtain ⟨rest, hb⟩ := h
  refine ⟨ccel (ks.drop n) ++ rest, ?_⟩
  rw [← List.append_assoc, ← ccel_app, List.take_append_drop]
  exact hb
/-- A slice over such a row. -/
theorem RC.cw {w : World} {g : Nat} {ks : List Ch} (h : RC w g ks) {n cap : Nat} (hn : ks.length = n) (hc : n ≤ cap) (hm : cap ≤ maxLen) (hok : ∀ x ∈ ks, ChOk x) : Cw w (.slice (some ⟨g, 0, none⟩) n cap) ks := by
  subst hn
  exact ⟨⟨_, cap, rfl, hc, hm, .inr ⟨g, 0, rfl, fun j x hx => by rw [Nat.zero_add]; exact h.cell hx⟩, fun e => nomatch e⟩, hok⟩
/-- A row of one's own with its capacity. -/
def RCc (w : World) (g c : Nat) (ks : List Ch) : Prop := ∃ rest : List Value, Blk w g 50 (ccel ks ++ rest).toArray ∧ (ccel ks).length + rest.length = c * 4
theorem RCc.rc {w : World} {g c : Nat} {ks : List Ch} (h : RCc w g c ks) : RC w g ks := by
  obtain ⟨rest, h1, h2⟩ := h
  exact ⟨rest, h1⟩
theorem RCc.keep {w w' : World} {g c : Nat} {ks : List Ch} (h : RCc w g c ks) (hk : Kp w w') : RCc w' g c ks := by
  obtain ⟨rest, hb, h2⟩ := h
  exact ⟨rest, hb.keep hk, h2⟩
theorem RCc.put {w : World} {g c : Nat} {ks : List Ch} (h : RCc w g c ks) {i : Nat} (hi : i < ks.length) (x : Ch) :
    RCc ((((w.setCell ⟨g, i * 4, none⟩ (.int .i64 x.1)).setCell ⟨g, i * 4 + 1, none⟩ (.string (st x.2.1))).setCell ⟨g, i * 4 + 2, none⟩ (.string (st x.2.2.1))).setCell ⟨g, i * 4 + 3, none⟩ (.string (st x.2.2.2))) g c (ks.set i x) := by
  obtain ⟨rest, hb, h2⟩ := h
  refine ⟨rest, ?_, by rw [ccel_len, List.length_set, ← ccel_len]; exact h2⟩
  have := (((hb.set (i * 4) (.int .i64 x.1)).set (i * 4 + 1) (.string (st x.2.1))).set (i * 4 + 2) (.string (st x.2.2.1))).set (i * 4 + 3) (.string (st x.2.2.2))
  have hl := ccel_len ks
  have e : ((((ccel ks ++ rest).toArray.setIfInBounds (i * 4) (.int .i64 x.1)).setIfInBounds (i * 4 + 1) (.string (st x.2.1))).setIfInBounds (i * 4 + 2) (.string (st x.2.2.1))).setIfInBounds (i * 4 + 3) (.string (st x.2.2.2)) = (ccel (ks.set i x) ++ rest).toArray := by
    rw [← ccel_set ks i x hi]
    simp only [List.setIfInBounds_toArray]
    rw [List.set_append_left _ _ (by omega), List.set_append_left _ _ (by simp; omega), List.set_append_left _ _ (by simp; omega), List.set_append_left _ _ (by simp; omega)]
  rw [← e]
  exact this
theorem RCc.own {w W : World} {g c n : Nat} {ks : List Ch} (h : RCc W g c ks) (hn : ks.length = n) (hnc : n ≤ c) (hc : c ≤ maxLen) (hg : w.heap.size ≤ g) (hk : Kp w W) (hok : ∀ x ∈ ks, ChOk x) : OwC w W (.slice (some ⟨g, 0, none⟩) n c) ks := by
  subst hn
  obtain ⟨rest, hb, h2⟩ := h
  have hl := ccel_len ks
  refine ⟨⟨by omega, .inr ⟨g, c, _, rfl, hg, hb, hnc, hc, by simp only [List.size_toArray, List.length_append]; exact h2, ?_⟩⟩, hok, hk⟩
  show (ccel ks ++ rest).take _ = _
  rw [show ks.length * 4 = (ccel ks).length by omega]
  exact List.take_left
theorem OwC.rcc {w wr : World} {v : Value} {ks : List Ch} (h : OwC w wr v ks) (hn : 0 < ks.length) : ∃ g c, v = .slice (some ⟨g, 0, none⟩) ks.length c ∧ w.heap.size ≤ g ∧ ks.length ≤ c ∧ c ≤ maxLen ∧ RCc wr g c ks := by
  rcases h.owns.2 with ⟨_, h0⟩ | ⟨g, cap, cur, rfl, hb, hg, hnc, hcm, hsz, htake⟩
  · omega
  · have hl := ccel_len ks
    have h3 : ccel ks = cur.toList.take (ccel ks).length := by
      rw [hl, Nat.mul_comm]
      exact htake.symm
    refine ⟨g, cap, rfl, hb, hnc, hcm, cur.toList.drop (ccel ks).length, ?_, ?_⟩
    · have e : (ccel ks ++ cur.toList.drop (ccel ks).length).toArray = cur := by
        conv => lhs; arg 1; lhs; rw [h3]
        rw [List.take_append_drop, Array.toArray_toList]
      rw [e]
      exact hg
    · have e3 : cur.toList.length = cur.size := rfl
      have e4 := congrArg List.length h3
      rw [List.length_take] at e4
      rw [List.length_drop]
      omega
theorem ccel_one : ∀ (ks : List Ch), ∀ u ∈ ccel ks, u.oneCell' = true := by
  intro ks u hu
  simp only [ccel, List.mem_flatMap] at hu
  obtain ⟨x, -, h⟩ := hu
  simp at h
  rcases h with rfl | rfl | rfl | rfl <;> rfl
theorem ccel_news {w : World} {b off : Nat} : ∀ {rs : List Ch} , (∀ (j : Nat) (x : Ch), rs[j]? = some x → C4 w b (off + j * 4) x) → ∀ (j : Nat) (u : Value), (ccel rs)[j]? = some u → w.cell? ((⟨b, off, none⟩ : Addr).add j) = some u := by
  intro rs h j u hu
  have hl := ccel_len rs
  have hj : j < (ccel rs).length := (List.getElem?_eq_some_iff.1 hu).1
  obtain ⟨x, hx⟩ : ∃ x, rs[j / 4]? = some x := ⟨_, List.getElem?_eq_getElem (by omega)⟩
  obtain ⟨c0, c1, c2, c3⟩ := h _ x hx
  obtain ⟨d0, d1, d2, d3⟩ := ccel_at rs _ x hx
  rw [Addr.add_lit]
  obtain e | e | e | e : j = j / 4 * 4 ∨ j = j / 4 * 4 + 1 ∨ j = j / 4 * 4 + 2 ∨ j = j / 4 * 4 + 3 := by omega
  · rw [e] at hu
    rw [d0] at hu
    injection hu with hu
    rw [e, ← hu]
    exact c0
  · rw [e] at hu
    rw [d1] at hu
    injection hu with hu
    rw [e, ← hu]
    exact c1
  · rw [e] at hu
    rw [d2] at hu
    injection hu with hu
    rw [e, ← hu]
    exact c2
  · rw [e] at hu
    rw [d3] at hu
    injection hu with hu
    rw [e, ← hu]
    exact c3
/-- The builtin copy within such a row: all changes from i on move up by one. -/
theorem shift_c {W : World} {g c i N : Nat} {zs : List Ch} (h : RCc W g c zs) (hN : zs.length = N) (hi : i + 1 < N) (hNc : N ≤ c) :
    ∃ (W' : World) (k : Nat), (∀ ty, (Builtin.copy_ #[33, 33] ty #[.slice (some ⟨g, (i + 1) * 4, none⟩) (N - (i + 1)) (c - (i + 1)), .slice (some ⟨g, i * 4, none⟩) (N - i) (c - i)]).run Tryz.prog W = .ok (goInt k) W') ∧
      RCc W' g c (zs.take (i + 1) ++ (zs.drop i).take (N - (i + 1))) ∧ Only g W W' := by
  obtain ⟨rest, hb, h2⟩ := h
  obtain ⟨ys, hys⟩ : ∃ ys, ys = (zs.drop i).take (N - (i + 1)) := ⟨_, rfl⟩
  have hyl : ys.length = N - (i + 1) := by rw [hys, List.length_take, List.length_drop]; omega
  rw [← hys]
  have hzl := ccel_len zs
  have hyk := ccel_len ys
  have hsrc : ∀ j v, (ccel ys)[j]? = some v → W.cell? ((⟨g, i * 4, none⟩ : Addr).add j) = some v := by
    refine ccel_news fun j x hx => ?_
    have hj : j < ys.length := (List.getElem?_eq_some_iff.1 hx).1
    have hz : zs[i + j]? = some x := by
      rw [hys, List.getElem?_take, if_pos (by omega), List.getElem?_drop] at hx
      exact hx
    have hr : RC W g zs := ⟨rest, hb⟩
    have := hr.cell hz
    rwa [show (i + j) * 4 = i * 4 + j * 4 by omega] at this
  have hl := run_loadCells_list (P := Tryz.prog) W ⟨g, i * 4, none⟩ (ccel ys) hsrc
  have hfit : (i + 1) * 4 + 0 + (ccel ys).length ≤ (ccel zs ++ rest).toArray.size := by simp only [List.size_toArray, List.length_append]; omega
  have hst := run_storeCells_at Tryz.prog g ((i + 1) * 4) 50 (ccel ys) 0 (ccel zs ++ rest).toArray W hb hfit (ccel_one ys)
  obtain ⟨inf, hi1, hi2, hi3, hi4⟩ := info_parts infoCh
  have hmin : Nat.min (N - i) (N - (i + 1)) = N - (i + 1) := Nat.min_eq_right (by omega)
  have hln : (ccel ys).length = (N - (i + 1)) * 4 := by omega
  rw [hln] at hl
  refine ⟨W.setRow g ((ccel zs ++ rest).toArray.toList.take ((i + 1) * 4 + 0) ++ ccel ys ++ (ccel zs ++ rest).toArray.toList.drop ((i + 1) * 4 + 0 + (ccel ys).length)).toArray, N - (i + 1), fun ty => ?_, ?_, ?_⟩
  rotate_left
  · refine ⟨rest, ?_, ?_⟩
    rotate_left
    · have := ccel_len (zs.take (i + 1) ++ ys)
      rw [List.length_append, List.length_take] at this
      omega
    · have e : ((ccel zs ++ rest).toArray.toList.take ((i + 1) * 4 + 0) ++ ccel ys ++ (ccel zs ++ rest).toArray.toList.drop ((i + 1) * 4 + 0 + (ccel ys).length)) = ccel (zs.take (i + 1) ++ ys) ++ rest := by
        rw [ccel_app]
        show (ccel zs ++ rest).take ((i + 1) * 4 + 0) ++ ccel ys ++ (ccel zs ++ rest).drop ((i + 1) * 4 + 0 + (ccel ys).length) = _
        have e1 : (ccel zs ++ rest).take ((i + 1) * 4 + 0) = ccel (zs.take (i + 1)) := by
          conv => lhs; arg 2; arg 1; rw [← List.take_append_drop (i + 1) zs]
          rw [ccel_app, List.append_assoc]
          have hk := ccel_len (zs.take (i + 1))
          rw [List.length_take] at hk
          rw [show (i + 1) * 4 + 0 = (ccel (zs.take (i + 1))).length by omega]
          exact List.take_left
        have e2 : (ccel zs ++ rest).drop ((i + 1) * 4 + 0 + (ccel ys).length) = rest := by
          rw [show (i + 1) * 4 + 0 + (ccel ys).length = (ccel zs).length by omega]
          exact List.drop_left
        rw [e1, e2]
      rw [← e]
      exact setRow_heap W g _ _ _ _ hb
  · exact ⟨rfl, rfl, rfl, by simp, fun b hne => setRow_other W g b _ hne⟩
  · simp [Builtin.copy_, run_underlying Tryz.underlying33, Builtin.lenOf, Builtin.firstCells, sizeOf, typeInfo, hi1, hi3, hmin, hl, hst]
end By
end Go.Proofs.YtfobogcccbddbaaGreatDoor

/- The reference's Same of changes, and their order. Conditions: at most a thousand changes; their strings are bytes. -/
namespace Go.Proofs.YtfobogcccbddbaaGreatDoor
namespace By
open Go.RowKit WireN LexN RevN FdN
set_option linter.unusedVariables false
set_option linter.unusedSimpArgs false

theorem ch_ne {x y : Ch} (h : x ≠ y) : x.1 ≠ y.1 ∨ (x.1 = y.1 ∧ x.2.1 ≠ y.2.1) ∨ (x.1 = y.1 ∧ x.2.1 = y.2.1 ∧ x.2.2.1 ≠ y.2.2.1) ∨ (x.1 = y.1 ∧ x.2.1 = y.2.1 ∧ x.2.2.1 = y.2.2.1 ∧ x.2.2.2 ≠ y.2.2.2) := by
  by_cases a1 : x.1 = y.1
  · by_cases a2 : x.2.1 = y.2.1
    · by_cases a3 : x.2.2.1 = y.2.2.1
      · exact .inr (.inr (.inr ⟨a1, a2, a3, fun a4 => h (Prod.ext a1 (Prod.ext a2 (Prod.ext a3 a4)))⟩))
      · exact .inr (.inr (.inl ⟨a1, a2, a3⟩))
    · exact .inr (.inl ⟨a1, a2⟩)
  · exact .inl a1
/-- A change as a value. -/
def vC (x : Ch) : Value := .agg #[.int .i64 x.1, .string (st x.2.1), .string (st x.2.2.1), .string (st x.2.2.2)]
set_option maxRecDepth 100000 in
set_option maxHeartbeats 4000000 in
theorem SameC_any {va vb : Value} {ks ls : List Ch} {w : World} (ha : Cw w va ks) (hb : Cw w vb ls) (hk : ks.length ≤ 1000) (hl : ls.length ≤ 1000) :
    Calls Tryz.prog 11 #[va, vb] w fun e w' => e = .returned (.bool (decide (ks = ls))) ∧ Kp w w' := by
  obtain ⟨ao, ac, rfl, h1, -, -⟩ := ha.open3
  obtain ⟨bo, bc, rfl, h2, -, -⟩ := hb.open3
  obtain ⟨n, hn⟩ : ∃ n, n = ks.length := ⟨_, rfl⟩
  obtain ⟨m, hm⟩ : ∃ m, m = ls.length := ⟨_, rfl⟩
  rw [← hn] at ha h1 hk ⊢
  rw [← hm] at hb h2 hl ⊢
  have HA := Lib.hid ha; have HB := Lib.hid hb; have HN := Lib.hid hn; have HM := Lib.hid hm
  obtain ⟨V, hV⟩ : ∃ V, V = decide (ks = ls) := ⟨_, rfl⟩
  rw [← hV]
  have HV := Lib.hid hV
  have i1 : (n : Int) ≤ (ac : Int) := by omega
  have i2 : (m : Int) ≤ (bc : Int) := by omega
  have i3 : (n : Int) ≤ 1000 := by omega
  clear ha hb hn hm hV h1 h2
  by_cases hnm : n = m
  · subst hnm
    go_enter Tryz.func11, Tryz.ntmps11
    go_wp2_with fail
    go_loopw [13] (fun i wr => ∃ k : Nat, i = .int .i64 (k : Nat) ∧ k ≤ n ∧ (∀ j, j < k → ks[j]? = ls[j]?) ∧ Kp w wr) (fun i _ => n - (intOf i).toNat)
    case atStart => exact ⟨0, rfl, Nat.zero_le _, fun j hj => by omega, Kp.refl _⟩
    case round =>
      obtain ⟨k, rfl, hkn, hall, hkp⟩ := hrel
      rename World => wx
      have HALL := Lib.hid hall; have HKP := Lib.hid hkp
      by_cases hlt : k < n
      · have hki : (k : Int) < (n : Int) := by omega
        obtain ⟨x, hx⟩ : ∃ x, ks[k]? = some x := ⟨_, List.getElem?_eq_getElem (by have := HN.out; omega)⟩
        obtain ⟨y, hy⟩ : ∃ y, ls[k]? = some y := ⟨_, List.getElem?_eq_getElem (by have := HM.out; omega)⟩
        obtain ⟨b1, o1, rfl, e1⟩ := (HA.out.keep hkp).cell (by omega)
        obtain ⟨b2, o2, rfl, e2⟩ := (HB.out.keep hkp).cell (by omega)
        obtain ⟨c0, c1, c2, c3⟩ := e1 k x hx
        obtain ⟨d0, d1, d2, d3⟩ := e2 k y hy
        have hxo := HA.out.ok x (List.mem_of_getElem? hx)
        have hyo := HB.out.ok y (List.mem_of_getElem? hy)
        have q2 := st_inj' hxo.2.1.1 hyo.2.1.1
        have q3 := st_inj' hxo.2.1.2.1 hyo.2.1.2.1
        have q4 := st_inj' hxo.2.1.2.2 hyo.2.1.2.2
        by_cases he : x = y
        · subst he
          have HNX : Hid ((∀ j, j < k + 1 → ks[j]? = ls[j]?) ∧ Kp w wx.drew) := Lib.hid ⟨fun j hj => by
            by_cases e : j = k
            · rw [e, hx, hy]
            · exact HALL.out j (by omega), Kp.trans hkp (kp_drew _)⟩
          obtain ⟨x1, x2, x3, x4⟩ := x
          simp only at c0 c1 c2 c3 d0 d1 d2 d3 q2 q3 q4
          clear hx hy e1 e2 hxo hyo hall hkp
          go_wp2_with fail
          go_region
          go_wp2_with fail
          go_roundw
          case rel => exact ⟨k + 1, by go_num, by omega, HNX.out⟩
          case measure => simp [intOf]; omega
        · have HF : Hid (V = false) := Lib.hid (by
            rw [HV.out, decide_eq_false_iff_not]
            intro e
            rw [e, hy] at hx
            exact he (by injection hx with h; exact h.symm))
          have HKD := Lib.hid (Kp.trans hkp (kp_drew wx))
          have hne := ch_ne he
          obtain ⟨x1, x2, x3, x4⟩ := x
          obtain ⟨y1, y2, y3, y4⟩ := y
          simp only at c0 c1 c2 c3 d0 d1 d2 d3 q2 q3 q4 hne
          clear hx hy e1 e2 hxo hyo he hall hkp
          rcases hne with h1 | ⟨rfl, h2⟩ | ⟨rfl, rfl, h3⟩ | ⟨rfl, rfl, rfl, h4⟩
          all_goals
            go_wp2_with fail
            go_region
            go_wp2_with fail
            go_ret
            exact ⟨ret_bool HF.out.symm, HKD.out⟩
      · obtain rfl : k = n := by omega
        have HT : Hid (V = true) := Lib.hid (by
          rw [HV.out, decide_eq_true_eq]
          refine List.ext_getElem? fun j => ?_
          by_cases hj : j < k
          · exact HALL.out j hj
          · rw [List.getElem?_eq_none (by have := HN.out; omega), List.getElem?_eq_none (by have := HM.out; omega)])
        clear hall hkp hlt
        go_wp2_with fail
        go_ret
        exact ⟨ret_bool HT.out.symm, HKP.out⟩
  · have HF : Hid (V = false) := Lib.hid (by
      rw [HV.out, decide_eq_false_iff_not]
      intro e
      exact hnm (by rw [HN.out, HM.out, e]))
    have hb : ((n : Int) == (m : Int)) = false := beq_eq_false_iff_ne.2 (by omega)
    clear hnm
    go_enter Tryz.func11, Tryz.ntmps11
    go_wp2_with fail
    go_ret
    exact ⟨ret_bool HF.out.symm, Kp.refl _⟩
set_option maxRecDepth 100000 in
set_option maxHeartbeats 4000000 in
theorem rBef_any {x y : Ch} (hx : ChOk x) (hy : ChOk y) (w : World) : Calls Tryz.prog 65 #[vC x, vC y] w fun e w' => e = .returned (.bool (bfr x y)) ∧ Kp w w' := by
  obtain ⟨Q, hQ⟩ : ∃ Q : Ending → World → Prop, Q = fun e w' => e = .returned (.bool (bfr x y)) ∧ Kp w w' := ⟨_, rfl⟩
  have FIN : Hid (∀ (c : Bool) (w' : World), c = bfr x y → Kp w w' → Q (.returned (.bool c)) w') := Lib.hid (by
    intro c w' h1 h2
    rw [hQ, h1]
    exact ⟨rfl, h2⟩)
  rw [← hQ]
  have q2 := st_inj' hx.2.1.1 hy.2.1.1
  have l2 := less_st hx.2.1.1 hy.2.1.1
  have HV : Hid (bfr x y = (lss x.2.1 y.2.1 || (decide (x.2.1 = y.2.1) && decide (x.1 < y.1)))) := Lib.hid rfl
  obtain ⟨V, hV⟩ : ∃ V, V = bfr x y := ⟨_, rfl⟩
  rw [← hV] at HV FIN
  obtain ⟨x1, x2, x3, x4⟩ := x
  obtain ⟨y1, y2, y3, y4⟩ := y
  simp only [vC] at q2 l2 HV ⊢
  obtain ⟨a2, ha2⟩ : ∃ b, b = lss x2 y2 := ⟨_, rfl⟩
  rw [← ha2] at l2 HV
  obtain ⟨e2, he2⟩ : ∃ b, b = decide (x2 = y2) := ⟨_, rfl⟩
  rw [← he2] at q2 HV
  obtain ⟨S2, hS2⟩ : ∃ S, S = st x2 := ⟨_, rfl⟩
  obtain ⟨S3, hS3⟩ : ∃ S, S = st x3 := ⟨_, rfl⟩
  obtain ⟨S4, hS4⟩ : ∃ S, S = st x4 := ⟨_, rfl⟩
  obtain ⟨T2, hT2⟩ : ∃ S, S = st y2 := ⟨_, rfl⟩
  obtain ⟨T3, hT3⟩ : ∃ S, S = st y3 := ⟨_, rfl⟩
  obtain ⟨T4, hT4⟩ : ∃ S, S = st y4 := ⟨_, rfl⟩
  rw [← hS2, ← hT2] at q2 l2 ⊢
  rw [← hS3, ← hT3, ← hS4, ← hT4]
  have HK : Hid (Kp w ((w.alloc (.cells #[.int .i64 x1, .string S2, .string S3, .string S4] 50)).alloc (.cells #[.int .i64 y1, .string T2, .string T3, .string T4] 50))) := Lib.hid (Kp.alloc (kp_alloc _ _) _)
  clear hV ha2 he2 hS2 hS3 hS4 hT2 hT3 hT4 hx hy hQ
  cases a2 with
  | true =>
    have HF : Hid (true = V) := Lib.hid (by rw [HV.out]; rfl)
    clear HV q2
    go_enter Tryz.func65, Tryz.ntmps65
    go_wp2_with fail
    exact FIN.out _ _ HF.out HK.out
  | false =>
    cases e2 with
    | false =>
      have HF : Hid (false = V) := Lib.hid (by rw [HV.out]; rfl)
      clear HV
      go_enter Tryz.func65, Tryz.ntmps65
      go_wp2_with fail
      exact FIN.out _ _ HF.out HK.out
    | true =>
      obtain ⟨d, hd⟩ : ∃ d, d = decide (x1 < y1) := ⟨_, rfl⟩
      have HF : Hid (d = V) := Lib.hid (by rw [HV.out, hd]; simp)
      have hd2 : decide (x1 < y1) = d := hd.symm
      clear HV hd
      cases d <;>
      · go_enter Tryz.func65, Tryz.ntmps65
        go_wp2_with fail
        exact FIN.out _ _ HF.out HK.out
end By
end Go.Proofs.YtfobogcccbddbaaGreatDoor

/- The reference's takes, puts and well of a change. Condition: its strings are bytes. -/
namespace Go.Proofs.YtfobogcccbddbaaGreatDoor
namespace By
open Go.RowKit WireN LexN RevN FdN
set_option linter.unusedVariables false
set_option linter.unusedSimpArgs false

theorem st_nilL : (st ([] : List Nat)).toList = [] := by rw [ByteArray.toList_eq]; rfl
theorem kind_cases (k : Int) : k = 1 ∨ k = 2 ∨ k = 3 ∨ k = 4 ∨ (k ≠ 1 ∧ k ≠ 2 ∧ k ≠ 3 ∧ k ≠ 4) := by omega
def tkP (x : Ch) : List Nat := (tks x).getD []
set_option maxRecDepth 100000 in
set_option maxHeartbeats 4000000 in
theorem rTakes_any {x : Ch} (hx : ChOk x) (w : World) : Calls Tryz.prog 44 #[vC x] w fun e w' => e = .returned (.tuple #[.string (st (tkP x)), .bool (tks x).isSome]) ∧ Kp w w' := by
  obtain ⟨Q, hQ⟩ : ∃ Q : Ending → World → Prop, Q = fun e w' => e = .returned (.tuple #[.string (st (tkP x)), .bool (tks x).isSome]) ∧ Kp w w' := ⟨_, rfl⟩
  have FIN : Hid (∀ (S : ByteArray) (c : Bool) (w' : World), S = st (tkP x) → c = (tks x).isSome → Kp w w' → Q (.returned (.tuple #[.string S, .bool c])) w') := Lib.hid (by
    intro S c w' h1 h2 h9
    rw [hQ, h1, h2]
    exact ⟨rfl, h9⟩)
  rw [← hQ]
  have e3 := st_inj' hx.2.1.2.1 Lt.nil
  have e4 := st_inj' hx.2.1.2.2 Lt.nil
  obtain ⟨x1, x2, x3, x4⟩ := x
  simp only [vC] at e3 e4 FIN ⊢
  have HK : Hid (Kp w (w.alloc (.cells #[.int .i64 x1, .string (st x2), .string (st x3), .string (st x4)] 50))) := Lib.hid (kp_alloc _ _)
  obtain ⟨S2, hS2⟩ : ∃ S, S = st x2 := ⟨_, rfl⟩
  obtain ⟨S3, hS3⟩ : ∃ S, S = st x3 := ⟨_, rfl⟩
  obtain ⟨S4, hS4⟩ : ∃ S, S = st x4 := ⟨_, rfl⟩
  rw [← hS3] at e3
  rw [← hS4] at e4
  rw [← hS2, ← hS3, ← hS4] at HK
  rw [← hS2, ← hS3, ← hS4]
  obtain ⟨b3, hb3⟩ : ∃ b, b = decide (x3 = []) := ⟨_, rfl⟩
  obtain ⟨b4, hb4⟩ : ∃ b, b = decide (x4 = []) := ⟨_, rfl⟩
  rw [← hb3] at e3
  rw [← hb4] at e4
  have HS2 := Lib.hid hS2; have HS3 := Lib.hid hS3; have HB3 := Lib.hid hb3; have HB4 := Lib.hid hb4
  replace e3 : S3.toList.isEmpty = b3 := by
    rw [← e3, st_nilL]
    cases S3.toList <;> rfl
  replace e4 : S4.toList.isEmpty = b4 := by
    rw [← e4, st_nilL]
    cases S4.toList <;> rfl
  have g3 : (S3.toList = []) = (b3 = true) := by rw [← e3]; exact (propext List.isEmpty_iff).symm
  have g4 : (S4.toList = []) = (b4 = true) := by rw [← e4]; exact (propext List.isEmpty_iff).symm
  clear hQ hS2 hS3 hS4 hb3 hb4 hx
  clear e3 e4 g3 g4
  rcases kind_cases x1 with rfl | rfl | rfl | rfl | ⟨k1, k2, k3, k4⟩
  · go_enter Tryz.func44, Tryz.ntmps44
    go_wp2_with fail
    exact FIN.out _ _ _ rfl rfl HK.out
  · go_enter Tryz.func44, Tryz.ntmps44
    go_wp2_with fail
    exact FIN.out _ _ _ (by rw [HS2.out]; rfl) rfl HK.out
  · go_enter Tryz.func44, Tryz.ntmps44
    go_wp2_with fail
    exact FIN.out _ _ _ (by rw [HS2.out]; rfl) rfl HK.out
  · go_enter Tryz.func44, Tryz.ntmps44
    go_wp2_with fail
    exact FIN.out _ _ _ (by rw [HS3.out]; rfl) rfl HK.out
  · have q1 : ((x1 : Int) == 4) = false := beq_eq_false_iff_ne.2 k4
    have q2 : ((x1 : Int) == 2) = false := beq_eq_false_iff_ne.2 k2
    have q3 : ((x1 : Int) == 3) = false := beq_eq_false_iff_ne.2 k3
    have HN : Hid (tks (x1, x2, x3, x4) = none) := Lib.hid (by unfold tks; rw [if_neg k4, if_neg (by rintro (h | h); exact k2 h; exact k3 h)])
    clear k1 k2 k3 k4
    go_enter Tryz.func44, Tryz.ntmps44
    go_wp2_with fail
    exact FIN.out _ _ _ (by unfold tkP; rw [HN.out]; rfl) (by rw [HN.out]; rfl) HK.out
set_option maxRecDepth 100000 in
set_option maxHeartbeats 4000000 in
theorem rPuts_any {x : Ch} (hx : ChOk x) (w : World) : Calls Tryz.prog 45 #[vC x] w fun e w' => e = .returned (.bool (pts x)) ∧ Kp w w' := by
  obtain ⟨Q, hQ⟩ : ∃ Q : Ending → World → Prop, Q = fun e w' => e = .returned (.bool (pts x)) ∧ Kp w w' := ⟨_, rfl⟩
  have FIN : Hid (∀ (c : Bool) (w' : World), c = pts x → Kp w w' → Q (.returned (.bool c)) w') := Lib.hid (by
    intro c w' h1 h9
    rw [hQ, h1]
    exact ⟨rfl, h9⟩)
  rw [← hQ]
  have e3 := st_inj' hx.2.1.2.1 Lt.nil
  have e4 := st_inj' hx.2.1.2.2 Lt.nil
  obtain ⟨x1, x2, x3, x4⟩ := x
  simp only [vC] at e3 e4 FIN ⊢
  have HK : Hid (Kp w (w.alloc (.cells #[.int .i64 x1, .string (st x2), .string (st x3), .string (st x4)] 50))) := Lib.hid (kp_alloc _ _)
  obtain ⟨S2, hS2⟩ : ∃ S, S = st x2 := ⟨_, rfl⟩
  obtain ⟨S3, hS3⟩ : ∃ S, S = st x3 := ⟨_, rfl⟩
  obtain ⟨S4, hS4⟩ : ∃ S, S = st x4 := ⟨_, rfl⟩
  rw [← hS3] at e3
  rw [← hS4] at e4
  rw [← hS2, ← hS3, ← hS4] at HK
  rw [← hS2, ← hS3, ← hS4]
  obtain ⟨b3, hb3⟩ : ∃ b, b = decide (x3 = []) := ⟨_, rfl⟩
  obtain ⟨b4, hb4⟩ : ∃ b, b = decide (x4 = []) := ⟨_, rfl⟩
  rw [← hb3] at e3
  rw [← hb4] at e4
  have HS2 := Lib.hid hS2; have HS3 := Lib.hid hS3; have HB3 := Lib.hid hb3; have HB4 := Lib.hid hb4
  replace e3 : S3.toList.isEmpty = b3 := by
    rw [← e3, st_nilL]
    cases S3.toList <;> rfl
  replace e4 : S4.toList.isEmpty = b4 := by
    rw [← e4, st_nilL]
    cases S4.toList <;> rfl
  have g3 : (S3.toList = []) = (b3 = true) := by rw [← e3]; exact (propext List.isEmpty_iff).symm
  have g4 : (S4.toList = []) = (b4 = true) := by rw [← e4]; exact (propext List.isEmpty_iff).symm
  clear hQ hS2 hS3 hS4 hb3 hb4 hx
  clear e3 e4 g3 g4
  by_cases k : x1 = 2
  · subst k
    go_enter Tryz.func45, Tryz.ntmps45
    go_wp2_with fail
    exact FIN.out _ _ rfl HK.out
  · have q : ((x1 : Int) != 2) = true := by simp [k]
    have HV : Hid (true = pts (x1, x2, x3, x4)) := Lib.hid (by unfold pts; simp [k])
    clear k
    go_enter Tryz.func45, Tryz.ntmps45
    go_wp2_with fail
    exact FIN.out _ _ HV.out HK.out
set_option maxRecDepth 100000 in
set_option maxHeartbeats 4000000 in
theorem rWell_any {x : Ch} (hx : ChOk x) (w : World) : Calls Tryz.prog 43 #[vC x] w fun e w' => e = .returned (.bool (wel x)) ∧ Kp w w' := by
  obtain ⟨Q, hQ⟩ : ∃ Q : Ending → World → Prop, Q = fun e w' => e = .returned (.bool (wel x)) ∧ Kp w w' := ⟨_, rfl⟩
  have FIN : Hid (∀ (c : Bool) (w' : World), c = wel x → Kp w w' → Q (.returned (.bool c)) w') := Lib.hid (by
    intro c w' h1 h9
    rw [hQ, h1]
    exact ⟨rfl, h9⟩)
  rw [← hQ]
  have e3 := st_inj' hx.2.1.2.1 Lt.nil
  have e4 := st_inj' hx.2.1.2.2 Lt.nil
  obtain ⟨x1, x2, x3, x4⟩ := x
  simp only [vC] at e3 e4 FIN ⊢
  have HK : Hid (Kp w (w.alloc (.cells #[.int .i64 x1, .string (st x2), .string (st x3), .string (st x4)] 50))) := Lib.hid (kp_alloc _ _)
  obtain ⟨S2, hS2⟩ : ∃ S, S = st x2 := ⟨_, rfl⟩
  obtain ⟨S3, hS3⟩ : ∃ S, S = st x3 := ⟨_, rfl⟩
  obtain ⟨S4, hS4⟩ : ∃ S, S = st x4 := ⟨_, rfl⟩
  rw [← hS3] at e3
  rw [← hS4] at e4
  rw [← hS2, ← hS3, ← hS4] at HK
  rw [← hS2, ← hS3, ← hS4]
  obtain ⟨b3, hb3⟩ : ∃ b, b = decide (x3 = []) := ⟨_, rfl⟩
  obtain ⟨b4, hb4⟩ : ∃ b, b = decide (x4 = []) := ⟨_, rfl⟩
  rw [← hb3] at e3
  rw [← hb4] at e4
  have HS2 := Lib.hid hS2; have HS3 := Lib.hid hS3; have HB3 := Lib.hid hb3; have HB4 := Lib.hid hb4
  replace e3 : S3.toList.isEmpty = b3 := by
    rw [← e3, st_nilL]
    cases S3.toList <;> rfl
  replace e4 : S4.toList.isEmpty = b4 := by
    rw [← e4, st_nilL]
    cases S4.toList <;> rfl
  have g3 : (S3.toList = []) = (b3 = true) := by rw [← e3]; exact (propext List.isEmpty_iff).symm
  have g4 : (S4.toList = []) = (b4 = true) := by rw [← e4]; exact (propext List.isEmpty_iff).symm
  clear hQ hS2 hS3 hS4 hb3 hb4 hx
  rcases kind_cases x1 with rfl | rfl | rfl | rfl | ⟨k1, k2, k3, k4⟩
  · have HV : Hid (b3 = wel (1, x2, x3, x4)) := Lib.hid HB3.out
    clear e4 g4
    cases b3 <;>
    · go_enter Tryz.func43, Tryz.ntmps43
      go_wp2_with fail
      exact FIN.out _ _ HV.out HK.out
  · have HV : Hid ((b3 && b4) = wel (2, x2, x3, x4)) := Lib.hid (by rw [HB3.out, HB4.out]; rfl)
    cases b3 with
    | false =>
      go_enter Tryz.func43, Tryz.ntmps43
      go_wp2_with fail
      exact FIN.out _ _ HV.out HK.out
    | true =>
      cases b4 <;>
      · go_enter Tryz.func43, Tryz.ntmps43
        go_wp2_with fail
        exact FIN.out _ _ HV.out HK.out
  · have HV : Hid (b3 = wel (3, x2, x3, x4)) := Lib.hid HB3.out
    clear e4 g4
    cases b3 <;>
    · go_enter Tryz.func43, Tryz.ntmps43
      go_wp2_with fail
      exact FIN.out _ _ HV.out HK.out
  · have HV : Hid (b4 = wel (4, x2, x3, x4)) := Lib.hid HB4.out
    clear e3 g3
    cases b4 <;>
    · go_enter Tryz.func43, Tryz.ntmps43
      go_wp2_with fail
      exact FIN.out _ _ HV.out HK.out
  · have q1 : ((x1 : Int) == 1) = false := beq_eq_false_iff_ne.2 k1
    have q2 : ((x1 : Int) == 2) = false := beq_eq_false_iff_ne.2 k2
    have q3 : ((x1 : Int) == 3) = false := beq_eq_false_iff_ne.2 k3
    have q4 : ((x1 : Int) == 4) = false := beq_eq_false_iff_ne.2 k4
    have HV : Hid (false = wel (x1, x2, x3, x4)) := Lib.hid (by unfold wel; rw [if_neg (by rintro (h | h); exact k1 h; exact k3 h), if_neg k2, if_neg k4])
    clear k1 k2 k3 k4 e3 e4 g3 g4
    go_enter Tryz.func43, Tryz.ntmps43
    go_wp2_with fail
    exact FIN.out _ _ HV.out HK.out
end By
end Go.Proofs.YtfobogcccbddbaaGreatDoor
