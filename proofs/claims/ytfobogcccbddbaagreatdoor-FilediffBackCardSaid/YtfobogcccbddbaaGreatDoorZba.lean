/- Revisions in memory: slices that read as files. No condition. -/
import Derived.Test.YtfobogcccbddbaaGreatDoorZad
import Derived.Test.YtfobogcccbddbaaGreatDoorZab
namespace Go.Proofs.YtfobogcccbddbaaGreatDoor
namespace By
open Go.RowKit WireN LexN RevN
set_option linter.unusedVariables false
set_option linter.unusedSimpArgs false

/-- A slice value that reads as these files. -/
def AtF (w : World) (ao : Option Addr) (fs : List Fl) : Prop :=
  fs = [] ∨ ∃ b off, ao = some ⟨b, off, none⟩ ∧ ∀ (j : Nat) (f : Fl), fs[j]? = some f → w.cell? ⟨b, off + j * 2, none⟩ = some (.string (st f.1)) ∧ w.cell? ⟨b, off + j * 2 + 1, none⟩ = some (.string (st f.2))
structure Rw (w : World) (v : Value) (fs : List Fl) : Prop where
  ex : ∃ ao cap, v = .slice ao fs.length cap ∧ fs.length ≤ cap ∧ cap ≤ maxLen ∧ AtF w ao fs ∧ (ao = none → cap = 0)
  lt : ∀ f ∈ fs, Lt f.1 ∧ Lt f.2
  sm : ∀ f ∈ fs, f.1.length ≤ maxLen ∧ f.2.length ≤ maxLen
theorem AtF.keep {w w' : World} {ao : Option Addr} {fs : List Fl} (h : AtF w ao fs) (hk : Kp w w') : AtF w' ao fs := by
  rcases h with rfl | ⟨b, off, rfl, h⟩
  · exact .inl rfl
  · exact .inr ⟨b, off, rfl, fun j f hf => ⟨cell_kept (h j f hf).1 hk, cell_kept (h j f hf).2 hk⟩⟩
theorem Rw.keep {w w' : World} {v : Value} {fs : List Fl} (h : Rw w v fs) (hk : Kp w w') : Rw w' v fs := by
  obtain ⟨⟨ao, cap, h1, h2, h3, h4, h5⟩, hl, hs⟩ := h
  exact ⟨⟨ao, cap, h1, h2, h3, h4.keep hk, h5⟩, hl, hs⟩
theorem Rw.nil (w : World) : Rw w (.slice none 0 0) [] := ⟨⟨none, 0, rfl, Nat.le_refl _, Nat.zero_le _, .inl rfl, fun _ => rfl⟩, fun f h => by simp at h, fun f h => by simp at h⟩
theorem Rw.open3 {w : World} {v : Value} {fs : List Fl} (h : Rw w v fs) : ∃ ao cap, v = .slice ao fs.length cap ∧ fs.length ≤ cap ∧ cap ≤ maxLen ∧ (ao = none → cap = 0) := by
  obtain ⟨⟨ao, cap, h1, h2, h3, h4, h5⟩, hl, hs⟩ := h
  exact ⟨ao, cap, h1, h2, h3, h5⟩
theorem Rw.only {w w' : World} {v : Value} {fs : List Fl} {g : Nat} (h : Rw w v fs) (ho : Only g w w') (hne : ∀ b, v.ownBlock = some b → b ≠ g) : Rw w' v fs := by
  obtain ⟨⟨ao, cap, rfl, h2, h3, h4, h5⟩, hl, hs⟩ := h
  refine ⟨⟨ao, cap, rfl, h2, h3, ?_, h5⟩, hl, hs⟩
  rcases h4 with h4 | ⟨b, off, rfl, hc⟩
  · exact .inl h4
  · have hb : b ≠ g := hne b rfl
    refine .inr ⟨b, off, rfl, fun j f hf => ?_⟩
    have hh := ho.block b hb
    obtain ⟨c0, c1⟩ := hc j f hf
    unfold World.cell? at c0 c1 ⊢
    rw [hh]
    exact ⟨c0, c1⟩
/-- The cells of a file. -/
theorem Rw.cell {w : World} {ao : Option Addr} {n cap : Nat} {fs : List Fl} (h : Rw w (.slice ao n cap) fs) (hn : 0 < n) :
    ∃ b off, ao = some ⟨b, off, none⟩ ∧ ∀ (j : Nat) (f : Fl), fs[j]? = some f → w.cell? ⟨b, off + j * 2, none⟩ = some (.string (st f.1)) ∧ w.cell? ⟨b, off + j * 2 + 1, none⟩ = some (.string (st f.2)) := by
  obtain ⟨⟨ao', cap', h1, h2, h3, h4, h5⟩, hl, hs⟩ := h
  simp only [Value.slice.injEq] at h1
  obtain ⟨rfl, rfl, rfl⟩ := h1
  rcases h4 with rfl | h4
  · simp at hn
  · exact h4
/-- The cells of files in a row of one's own. -/
def fcel (fs : List Fl) : List Value := fs.flatMap fun f => [.string (st f.1), .string (st f.2)]
theorem fcel_len (fs : List Fl) : (fcel fs).length = 2 * fs.length := by
  induction fs with
  | nil => rfl
  | cons f fs ih => simp only [fcel, List.flatMap_cons, List.length_append, List.length_cons, List.length_nil] at ih ⊢; omega
theorem fcel_snoc (fs : List Fl) (f : Fl) : fcel (fs ++ [f]) = fcel fs ++ [.string (st f.1), .string (st f.2)] := by simp [fcel]
theorem fcel_app (fs gs : List Fl) : fcel (fs ++ gs) = fcel fs ++ fcel gs := by simp [fcel]
theorem fcel_at : ∀ (fs : List Fl) (j : Nat) (f : Fl), fs[j]? = some f → (fcel fs)[j * 2]? = some (.string (st f.1)) ∧ (fcel fs)[j * 2 + 1]? = some (.string (st f.2))
  | [], j, f, h => by simp at h
  | g :: fs, 0, f, h => by
    simp at h
    subst h
    exact ⟨rfl, rfl⟩
  | g :: fs, j + 1, f, h => by
    have := fcel_at fs j f (by simpa using h)
    rw [show (j + 1) * 2 = j * 2 + 1 + 1 by omega]
    simpa [fcel] using this
structure OwF (w wr : World) (v : Value) (fs : List Fl) : Prop where
  owns : wr.ownsRow w.heap.size 53 2 v fs.length (fcel fs)
  lt : ∀ f ∈ fs, Lt f.1 ∧ Lt f.2
  sm : ∀ f ∈ fs, f.1.length ≤ maxLen ∧ f.2.length ≤ maxLen
  kp : Kp w wr
theorem OwF.start (w : World) : OwF w w (.slice none 0 0) [] := ⟨World.ownsRow_nil _ _ _ _, fun f h => by simp at h, fun f h => by simp at h, Kp.refl _⟩
theorem OwF.base {w0 w wr : World} {v : Value} {fs : List Fl} (h : OwF w wr v fs) (hk : Kp w0 w) : OwF w0 wr v fs := by
  refine ⟨?_, h.lt, h.sm, Kp.trans hk h.kp⟩
  refine ⟨h.owns.1, ?_⟩
  rcases h.owns.2 with h2 | ⟨g, cap, cur, e1, e2, e3⟩
  · exact .inl h2
  · exact .inr ⟨g, cap, cur, e1, Nat.le_trans hk.size e2, e3⟩
theorem OwF.keep {w wr w1 : World} {v : Value} {fs : List Fl} (h : OwF w wr v fs) (hk : Kp wr w1) : OwF w w1 v fs := by
  refine ⟨?_, h.lt, h.sm, Kp.trans h.kp hk⟩
  refine World.ownsRow.kept (row := none) h.owns ⟨hk.os, hk.tape, hk.output, hk.size, fun i hi _ => hk.block i hi⟩ ?_
  rcases h.owns.2 with ⟨rfl, _⟩ | ⟨g', cap', cur, rfl, hb', _⟩
  · exact .inl rfl
  · right; intro e; simp [Value.ownBlock] at e
theorem OwF.rw {w wr : World} {v : Value} {fs : List Fl} (h : OwF w wr v fs) : Rw wr v fs := by
  refine ⟨?_, h.lt, h.sm⟩
  rcases h.owns.2 with ⟨rfl, h0⟩ | ⟨g, cap, cur, rfl, hb, hg, hnc, hcm, hsz, htake⟩
  · exact ⟨none, 0, by rw [h0], by omega, by unfold maxLen; omega, .inl (List.length_eq_zero_iff.1 h0), fun _ => rfl⟩
  · refine ⟨some ⟨g, 0, none⟩, cap, rfl, hnc, hcm, .inr ⟨g, 0, rfl, fun j f hf => ?_⟩, fun h => nomatch h⟩
    have hj : j < fs.length := (List.getElem?_eq_some_iff.1 hf).1
    obtain ⟨h1, h2⟩ := fcel_at fs j f hf
    have hcl := fcel_len fs
    constructor
    · rw [Nat.zero_add, cell_of_row wr g (j * 2) cur _ (0, 0) hg]
      rw [← htake, List.getElem?_take, if_pos (by omega)] at h1
      simpa using h1
    · rw [Nat.zero_add, cell_of_row wr g (j * 2 + 1) cur _ (0, 0) hg]
      rw [← htake, List.getElem?_take, if_pos (by omega)] at h2
      simpa using h2
theorem OwF.only {w wr w1 : World} {v : Value} {fs : List Fl} {g : Nat} (h : OwF w wr v fs) (ho : Only g wr w1) (hg : w.heap.size ≤ g) (hne : ∀ b, v.ownBlock = some b → b ≠ g) : OwF w w1 v fs := by
  refine ⟨?_, h.lt, h.sm, Only.kp h.kp ho hg⟩
  refine World.ownsRow.kept (row := some g) h.owns ⟨ho.os, ho.tape, ho.output, Nat.le_of_eq ho.size, fun i hi hn => ho.block i (fun e => hn (by rw [e]))⟩ ?_
  rcases h.owns.2 with ⟨rfl, _⟩ | ⟨g', cap', cur, rfl, hb', _⟩
  · exact .inl rfl
  · right; intro e; exact hne g' rfl (by simpa [Value.ownBlock] using e)
theorem infoFile : (Tryz.prog.info? 53).map (fun i => (i.zero, i.size, i.bytes)) = some (some (.agg #[.string ⟨#[]⟩, .string ⟨#[]⟩]), 2, 32) := by kernel_rfl
/-- append of a file to a row of one's own. -/
theorem wpList_fl {w wx : World} {ops : Array Oper} {rest : List Oper} {o : Oper} {a : Act} {Q : Exit → Act → World → Prop} (hgd : o.guard = none) (s x : Operand)
    (ho : o.op = .call { callee := .builtin .append, args := #[s, x], argTypes := #[23, 23] })
    (v : Value) {fs : List Fl} (hs : a.eval s = v) (hown : OwF w wx v fs) (hsm : fs.length ≤ 1000000) (f : Fl) (hf : (Lt f.1 ∧ Lt f.2) ∧ (f.1.length ≤ maxLen ∧ f.2.length ≤ maxLen)) (g : Nat) (hx : a.eval x = .slice (some ⟨g, 0, none⟩) 1 1)
    (hc : Blk wx g 53 #[.string (st f.1), .string (st f.2)])
    (h : ∀ v' w', OwF w w' v' (fs ++ [f]) → wx.grownBy w' v.ownBlock → (v'.ownBlock = v.ownBlock ∨ v'.ownBlock = some wx.heap.size) → wpList Tryz.prog ops Q rest (a.put o.dst v') w') : wpList Tryz.prog ops Q (o :: rest) a wx := by
  obtain ⟨i, hi, hz, hsize, hby⟩ := info_parts infoFile
  refine wpList_append_own_at (P := Tryz.prog) wx hgd s x _ ho w.heap.size _ i _ 2 32 Tryz.underlying23 hi hz hsize hby rfl (by omega) v fs.length (fcel fs) hs hown.owns ⟨g, 0, none⟩ 1 1 [.string (st f.1), .string (st f.2)] hx rfl ?_ ?_ (by unfold maxLen; omega) (by omega) hown.kp.size ?_
  · intro j u hu
    rw [Addr.add_lit]
    refine hc.cell (0 + j) ?_
    rw [Nat.zero_add]
    simpa using hu
  · intro u hu
    simp at hu
    rcases hu with rfl | rfl <;> rfl
  · intro v' w' h1 h2 h3 h4
    refine h v' w' ⟨?_, ?_, ?_, Below.grown hown.kp h2 hown.kp.size (fun k hk => ((row_form hown.owns).2 k hk).1)⟩ h2 h4
    · rw [List.length_append, fcel_snoc]; exact h1
    · intro y hy
      rcases List.mem_append.1 hy with hy | hy
      · exact hown.lt y hy
      · obtain rfl : y = f := by simpa using hy
        exact hf.1
    · intro y hy
      rcases List.mem_append.1 hy with hy | hy
      · exact hown.sm y hy
      · obtain rfl : y = f := by simpa using hy
        exact hf.2
end By
end Go.Proofs.YtfobogcccbddbaaGreatDoor

/- Paths of any length, the order of strings in memory, a file's error. Condition: a package variable of the library holds some integer. -/
namespace Go.Proofs.YtfobogcccbddbaaGreatDoor
namespace By
open Go.RowKit WireN LexN RevN
set_option linter.unusedVariables false
set_option linter.unusedSimpArgs false

theorem path_long {l : List Nat} (h : 80 < l.length) : pathB l = false := by
  unfold pathB
  rw [decide_eq_false (by omega)]
  rfl
set_option maxRecDepth 100000 in
set_option maxHeartbeats 1000000 in
theorem PathA {l : List Nat} (hl : Lt l) {w : World} (hm : MX w) : Calls Tryz.prog 79 #[.string (st l)] w fun e w' => e = .returned (.bool (pathB l)) ∧ Kp w w' := by
  by_cases h : l.length ≤ 80
  · exact Path_mx hl (by omega) hm
  · rw [path_long (by omega)]
    obtain ⟨n, hn⟩ : ∃ n, n = l.length := ⟨_, rfl⟩
    have qs : ∀ w, (Builtin.len_ #[9] 3 #[.string (st l)]).run Tryz.prog w = .ok (goInt n) w := fun w => by rw [hn]; exact len w
    have i1 : (80 : Int) < (n : Int) := by omega
    obtain ⟨S, hS⟩ : ∃ S, S = st l := ⟨_, rfl⟩
    rw [← hS] at qs ⊢
    clear hn hS hl h hm
    go_enter Tryz.func79, Tryz.ntmps79
    go_wp2_with fail
    go_ret
    exact ⟨rfl, Kp.refl _⟩
set_option maxRecDepth 100000 in
set_option maxHeartbeats 1000000 in
theorem rPathA {l : List Nat} (hl : Lt l) (w : World) : Calls Tryz.prog 46 #[.string (st l)] w fun e w' => e = .returned (.bool (pathB l)) ∧ w = w' := by
  by_cases h : l.length ≤ 80
  · exact rPath_any hl (by omega) w
  · rw [path_long (by omega)]
    obtain ⟨n, hn⟩ : ∃ n, n = l.length := ⟨_, rfl⟩
    have qs : ∀ w, (Builtin.len_ #[9] 3 #[.string (st l)]).run Tryz.prog w = .ok (goInt n) w := fun w => by rw [hn]; exact len w
    have i1 : (80 : Int) < (n : Int) := by omega
    obtain ⟨S, hS⟩ : ∃ S, S = st l := ⟨_, rfl⟩
    rw [← hS] at qs ⊢
    clear hn hS hl h
    go_enter Tryz.func46, Tryz.ntmps46
    go_wp2_with fail
    go_ret
    exact ⟨rfl, rfl⟩
theorem toList_st (l : List Nat) : (st l).toList = l.map fun n => UInt8.ofNat n := by
  rw [ByteArray.toList_eq]
  simp [st]
theorem less_map : ∀ {a b : List Nat}, (∀ x ∈ a, x < 256) → (∀ x ∈ b, x < 256) → Op.bytesLess (a.map fun n => UInt8.ofNat n) (b.map fun n => UInt8.ofNat n) = lss a b
  | a, [], _, _ => by rw [lss_nil]; cases a <;> rfl
  | [], y :: b, _, _ => rfl
  | x :: a, y :: b, ha, hb => by
    have hx : x < 256 := ha x List.mem_cons_self
    have hy : y < 256 := hb y List.mem_cons_self
    have ih := less_map (a := a) (b := b) (fun z hz => ha z (List.mem_cons_of_mem _ hz)) (fun z hz => hb z (List.mem_cons_of_mem _ hz))
    have h1 : (decide (UInt8.ofNat x < UInt8.ofNat y)) = decide (x < y) := by
      rw [decide_eq_decide, UInt8.lt_iff_toNat_lt]
      simp; omega
    have h2 : (UInt8.ofNat x == UInt8.ofNat y) = (x == y) := by
      rw [Bool.eq_iff_iff, beq_iff_eq, beq_iff_eq, ← UInt8.toNat_inj]
      simp; omega
    simp only [List.map_cons, Op.bytesLess, lss, ih, h1, h2]
theorem less_st {a b : List Nat} (ha : Lt a) (hb : Lt b) : Op.bytesLess (st a).toList (st b).toList = lss a b := by
  rw [toList_st, toList_st]
  exact less_map (fun x hx => ha.mem hx) (fun x hx => hb.mem hx)
end By
end Go.Proofs.YtfobogcccbddbaaGreatDoor
