/- slices.Grow and slices.Concat of files. Conditions: the slices read as the files that are named; together at most a million files. -/
import Derived.Test.YtfobogcccbddbaaGreatDoorZba
import Derived.Test.YtfobogcccbddbaaGreatDoorZab
import Derived.Laws.CopyRow
namespace Go.Proofs.YtfobogcccbddbaaGreatDoor
namespace By
open Go.RowKit WireN LexN RevN
set_option linter.unusedVariables false
set_option linter.unusedSimpArgs false

theorem ownF_grown (w : World) (n : Nat) (hn : n ≤ 1000000) :
    OwF w (w.alloc (.cells (Builtin.zeroCells (Value.agg #[.string ⟨#[]⟩, .string ⟨#[]⟩]).cells n ++ Builtin.zeroCells (Value.agg #[.string ⟨#[]⟩, .string ⟨#[]⟩]).cells (grownCap w n 0 53 - n)) 53)).drew
      (.slice (some ⟨w.heap.size, 0, none⟩) 0 (grownCap w n 0 53)) [] := by
  have h1 := grownCap_ge w n 0 53
  have h2 := grownCap_le_maxLen w n 0 53 (by unfold maxLen; omega)
  refine ⟨⟨rfl, .inr ⟨w.heap.size, grownCap w n 0 53, _, rfl, Nat.le_refl _, heap_alloc_new w _, Nat.zero_le _, h2, ?_, rfl⟩⟩, fun f h => by simp at h, fun f h => by simp at h, ?_⟩
  · simp [size_zeroCells, Value.cells]; omega
  · exact Kp.trans (kp_alloc w _) (Kp.drewN _ 1)
set_option maxRecDepth 100000 in
/-- append of files to a row of one's own. -/
theorem wpList_fls {w wx : World} {ops : Array Oper} {rest : List Oper} {o : Oper} {a : Act} {Q : Exit → Act → World → Prop} (hgd : o.guard = none) (s x : Operand)
    (ho : o.op = .call { callee := .builtin .append, args := #[s, x], argTypes := #[23, 23] })
    (v vs : Value) {fs gs : List Fl} (hs : a.eval s = v) (hx : a.eval x = vs) (hown : OwF w wx v fs) (hrw : Rw wx vs gs) (hsum : fs.length + gs.length ≤ 1000000)
    (h : ∀ v' w', OwF w w' v' (fs ++ gs) → wpList Tryz.prog ops Q rest (a.put o.dst v') w') : wpList Tryz.prog ops Q (o :: rest) a wx := by
  obtain ⟨i, hi, hz, hsize, hby⟩ := info_parts infoFile
  obtain ⟨⟨ao, cap, rfl, h2, h3, h4, h5⟩, hl, hsm⟩ := hrw
  cases ao with
  | none =>
    have hgs : gs = [] := by
      rcases h4 with h | ⟨_, _, h, _⟩
      · exact h
      · simp at h
    subst hgs
    obtain rfl := h5 rfl
    exact wpList_append_own_none hgd s x 23 ho w.heap.size 53 i 2 Tryz.underlying23 hi v fs.length (fcel fs) hs hown.owns hx (h v wx (by simpa using hown))
  | some ad =>
    have hlen := fcel_len gs
    refine wpList_append_own_at (P := Tryz.prog) wx hgd s x _ ho w.heap.size _ i _ 2 32 Tryz.underlying23 hi hz hsize hby rfl (by omega) v fs.length (fcel fs) hs hown.owns ad gs.length cap (fcel gs) hx (by omega) ?_ ?_ (by unfold maxLen; omega) (by omega) hown.kp.size ?_
    · intro j u hu
      have hj : j < 2 * gs.length := by rw [← hlen]; exact (List.getElem?_eq_some_iff.1 hu).1
      rcases h4 with rfl | ⟨b, off, e, hc⟩
      · simp at hj
      · injection e with e
        subst e
        rw [Addr_add]
        obtain ⟨f, hf⟩ : ∃ f, gs[j / 2]? = some f := ⟨_, List.getElem?_eq_getElem (by omega)⟩
        obtain ⟨c0, c1⟩ := hc (j / 2) f hf
        obtain ⟨e0, e1⟩ := fcel_at gs (j / 2) f hf
        by_cases hp : j % 2 = 0
        · have hj2 : j / 2 * 2 = j := by omega
          rw [hj2] at c0 e0
          rw [e0] at hu
          rw [c0]
          exact hu
        · have hj2 : j / 2 * 2 + 1 = j := by omega
          rw [hj2] at e1
          rw [Nat.add_assoc, hj2] at c1
          rw [e1] at hu
          rw [c1]
          exact hu
    · intro u hu
      obtain ⟨f, -, hf⟩ := List.mem_flatMap.1 hu
      simp at hf
      rcases hf with rfl | rfl <;> rfl
    · intro v' w' h1 h2 h3 h4
      refine h v' w' ⟨?_, ?_, ?_, Below.grown hown.kp h2 hown.kp.size (fun k hk => ((row_form hown.owns).2 k hk).1)⟩
      · rw [List.length_append, fcel_app]; exact h1
      · intro y hy
        rcases List.mem_append.1 hy with hy | hy
        · exact hown.lt y hy
        · exact hl y hy
      · intro y hy
        rcases List.mem_append.1 hy with hy | hy
        · exact hown.sm y hy
        · exact hsm y hy
/-- A list of slices of files in memory. -/
structure LisF (w : World) (a : Option Addr) (xss : List (List Fl)) : Prop where
  ex : ∃ b, a = some ⟨b, 0, none⟩ ∧ ∀ i, i < xss.length → ∃ v, w.cell? ⟨b, i, none⟩ = some v ∧ Rw w v (xss[i]?.getD [])
theorem LisF.keep {w w' : World} {a : Option Addr} {xss : List (List Fl)} (h : LisF w a xss) (hk : Kp w w') : LisF w' a xss := by
  obtain ⟨b, e, hc⟩ := h.ex
  exact ⟨b, e, fun i hi => by obtain ⟨v, h1, h2⟩ := hc i hi; exact ⟨v, cell_kept h1 hk, h2.keep hk⟩⟩
theorem LisF.two {w : World} {e : TypeId} {v0 v1 : Value} {xs ys : List Fl} (h0 : Rw w v0 xs) (h1 : Rw w v1 ys) : LisF (w.alloc (.cells #[v0, v1] e)) (some ⟨w.heap.size, 0, none⟩) [xs, ys] := by
  have hk := kp_alloc w (.cells #[v0, v1] e)
  have hb := Blk.new w e #[v0, v1]
  refine ⟨_, rfl, fun i hi => ?_⟩
  match i, hi with
  | 0, _ => exact ⟨v0, hb.cell 0 rfl, h0.keep hk⟩
  | 1, _ => exact ⟨v1, hb.cell 1 rfl, h1.keep hk⟩
theorem LisF.three {w : World} {e : TypeId} {v0 v1 v2 : Value} {xs ys zs : List Fl} (h0 : Rw w v0 xs) (h1 : Rw w v1 ys) (h2 : Rw w v2 zs) : LisF (w.alloc (.cells #[v0, v1, v2] e)) (some ⟨w.heap.size, 0, none⟩) [xs, ys, zs] := by
  have hk := kp_alloc w (.cells #[v0, v1, v2] e)
  have hb := Blk.new w e #[v0, v1, v2]
  refine ⟨_, rfl, fun i hi => ?_⟩
  match i, hi with
  | 0, _ => exact ⟨v0, hb.cell 0 rfl, h0.keep hk⟩
  | 1, _ => exact ⟨v1, hb.cell 1 rfl, h1.keep hk⟩
  | 2, _ => exact ⟨v2, hb.cell 2 rfl, h2.keep hk⟩
def catF (xss : List (List Fl)) (k : Nat) : List Fl := (xss.take k).flatten
theorem catF_succ {xss : List (List Fl)} {k : Nat} (h : k < xss.length) : catF xss (k + 1) = catF xss k ++ xss[k]?.getD [] := by
  unfold catF
  rw [List.take_add_one, List.getElem?_eq_getElem h, List.flatten_append]
  simp only [Option.toList_some, List.flatten_cons, List.flatten_nil, List.append_nil, Option.getD_some]
theorem catF_len_le (xss : List (List Fl)) (k : Nat) : (catF xss k).length ≤ xss.flatten.length := by
  have h : xss.flatten = catF xss k ++ (xss.drop k).flatten := by
    unfold catF
    rw [← List.flatten_append, List.take_append_drop]
  rw [h, List.length_append]
  omega
theorem catF_all {xss : List (List Fl)} {k : Nat} (h : xss.length ≤ k) : catF xss k = xss.flatten := by unfold catF; rw [List.take_of_length_le h]
end By
end Go.Proofs.YtfobogcccbddbaaGreatDoor

/- The program's joined: files in memory of their own. Conditions: the slices read as the files that are named; together at most a million files of at most a million bytes. -/
namespace Go.Proofs.YtfobogcccbddbaaGreatDoor
namespace By
open Go.RowKit WireN LexN RevN
set_option linter.unusedVariables false
set_option linter.unusedSimpArgs false

/-- Storing what is there changes nothing. -/
theorem Blk.self {w : World} {g i : Nat} {t : TypeId} {cs : Array Value} {v : Value} (h : Blk w g t cs) (hv : cs[i]? = some v) : w.setCell ⟨g, i, none⟩ v = w := by
  have hc : cs.setIfInBounds i v = cs := by
    obtain ⟨hi, he⟩ := Array.getElem?_eq_some_iff.1 hv
    rw [← he]
    simp [Array.setIfInBounds, hi]
  rw [setCell_eq_setRow w g i cs t (0, 0) v h, hc]
  exact setRow_self w g cs t (0, 0) h
/-- The block of a row of one's own. -/
theorem OwF.blk {w wr : World} {v : Value} {fs : List Fl} (h : OwF w wr v fs) (hn : 0 < fs.length) : ∃ g cap cur, v = .slice (some ⟨g, 0, none⟩) fs.length cap ∧ w.heap.size ≤ g ∧ fs.length ≤ cap ∧ Blk wr g 53 cur ∧
    ∀ (j : Nat) (f : Fl), fs[j]? = some f → cur[j * 2]? = some (.string (st f.1)) ∧ cur[j * 2 + 1]? = some (.string (st f.2)) := by
  rcases h.owns.2 with ⟨_, h0⟩ | ⟨g, cap, cur, rfl, hb, hg, hnc, hcm, hsz, htake⟩
  · omega
  · refine ⟨g, cap, cur, rfl, hb, hnc, hg, fun j f hf => ?_⟩
    have hj : j < fs.length := (List.getElem?_eq_some_iff.1 hf).1
    obtain ⟨h1, h2⟩ := fcel_at fs j f hf
    constructor
    · rw [← htake, List.getElem?_take, if_pos (by omega)] at h1
      simpa using h1
    · rw [← htake, List.getElem?_take, if_pos (by omega)] at h2
      simpa using h2
theorem Clone_st (l : List Nat) (hl : l.length ≤ 1000000) (w : World) : Calls Tryz.prog 32 #[.string (st l)] w fun e w' => e = .returned (.string (st l)) ∧ Kp w w' := by
  have HC := Lib.hid (Tryz.stringslite_Clone (st l) w (by rw [st_size]; omega))
  obtain ⟨S, hS⟩ : ∃ S, S = st l := ⟨_, rfl⟩
  rw [← hS] at HC ⊢
  clear hS
  go_enter Tryz.func32, Tryz.ntmps32
  go_wp2_with fail
  refine HC.out.mono ?_
  rintro e w1 ⟨rfl, hk⟩
  have HK := Lib.hid hk
  clear hk
  go_wp2_with fail
  go_ret
  exact ⟨rfl, HK.out⟩
end By
end Go.Proofs.YtfobogcccbddbaaGreatDoor
