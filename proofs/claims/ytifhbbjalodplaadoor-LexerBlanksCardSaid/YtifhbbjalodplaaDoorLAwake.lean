/- The laws' sanity check. Condition: a package variable of the library holds some integer. -/
import Derived.Test.YtifhbbjalodplaaDoorLToks
import Derived.Test.YtifhbbjalodplaaDoorLRName
namespace Go.Proofs.YtifhbbjalodplaaDoor
namespace By
open Go.RowKit WireN LexN
set_option linter.unusedVariables false
set_option linter.unusedSimpArgs false

/-- The package variable of the library that Split's contract asks for. -/
def MX (w : World) : Prop := ∃ m : Int, w.cell? ⟨0, 0, none⟩ = some (.int .i64 m)
theorem MX.keep {w w' : World} (h : MX w) (hk : Kp w w') : MX w' := by
  obtain ⟨m, hm⟩ := h
  exact ⟨m, cell_kept hm hk⟩
theorem Path_mx {l : List Nat} (hl : Lt l) (hlen : l.length ≤ 1000000) {w : World} (hm : MX w) :
    Calls Tryd.prog 13 #[.string (st l)] w fun e w' => e = .returned (.bool (pathB l)) ∧ Kp w w' := by
  obtain ⟨m, hm⟩ := hm
  exact Path_any hl hlen hm
theorem toks_awake : toks [97, 32, 61, 32, 53, 59, 32, 35, 32, 120] = ([(1, [97], 0, 0), (4, [61], 0, 2), (2, [], 5, 4), (4, [59], 0, 5), (5, [], 0, 10)], 0, 0) := by decide +kernel
theorem path_awake : pathB [97, 47, 98, 46, 99] = true := by decide +kernel
theorem name_awake : nameB [57] = false := by decide +kernel
theorem lt_dec {l : List Nat} (h : l.all (fun x => decide (x < 256)) = true) : Lt l := lt_of_mem fun x hx => by simpa using List.all_eq_true.1 h x hx

set_option maxRecDepth 100000 in
set_option maxHeartbeats 2000000 in
theorem awake_any {w : World} (hm : MX w) : Calls Tryd.prog 15 #[] w fun e w' => e = .returned (.bool true) ∧ Kp w w' := by
  have HM := Lib.hid hm
  have HT : Hid (Calls Tryd.prog 20 #[.string ⟨#[97, 32, 61, 32, 53, 59, 32, 35, 32, 120]⟩] w (TokensR ([(1, [97], 0, 0), (4, [61], 0, 2), (2, [], 5, 4), (4, [59], 0, 5), (5, [], 0, 10)], 0, 0) w)) := Lib.hid (by
    have h := Tokens_any (l := [97, 32, 61, 32, 53, 59, 32, 35, 32, 120]) (lt_dec (by decide +kernel)) w
    rw [toks_awake] at h
    exact h)
  have HP : Hid (∀ w, MX w → Calls Tryd.prog 13 #[.string ⟨#[97, 47, 98, 46, 99]⟩] w fun e w' => e = .returned (.bool true) ∧ Kp w w') := Lib.hid (fun w hm => by
    have h := Path_mx (l := [97, 47, 98, 46, 99]) (lt_dec (by decide +kernel)) (by decide) hm
    rw [path_awake] at h
    exact h)
  have HN : Hid (∀ w, Calls Tryd.prog 11 #[.string ⟨#[57]⟩] w fun e w' => e = .returned (.bool false) ∧ w = w') := Lib.hid (fun w => by
    have h := Name_any (l := [57]) (lt_dec (by decide +kernel)) (by decide) w
    rw [name_awake] at h
    exact h)
  clear hm
  go_enter Tryd.func15, Tryd.ntmps15
  go_wp2_with fail
  refine HT.out.mono ?_
  rintro e w1 ⟨v, w0, rfl, hrow, hk0⟩
  obtain ⟨g, cap, hv, hcap, -, -, hcell⟩ := hrow.cell (by simp)
  simp only at hv
  subst hv
  have hcl : (5 : Int) ≤ (cap : Int) := by
    have : (5 : Nat) ≤ cap := hcap
    omega
  have c0 : w1.cell? ⟨g, 0, none⟩ = some (.int .i64 1) := hcell 0 (1, [97], 0, 0) rfl 0 _ rfl
  have c1 : w1.cell? ⟨g, 1, none⟩ = some (.string ⟨#[97]⟩) := hcell 0 (1, [97], 0, 0) rfl 1 _ rfl
  have c2 : w1.cell? ⟨g, 2, none⟩ = some (.int .i64 0) := hcell 0 (1, [97], 0, 0) rfl 2 _ rfl
  have c3 : w1.cell? ⟨g, 3, none⟩ = some (.int .i64 0) := hcell 0 (1, [97], 0, 0) rfl 3 _ rfl
  have c8 : w1.cell? ⟨g, 8, none⟩ = some (.int .i64 2) := hcell 2 (2, [], 5, 4) rfl 0 _ rfl
  have c9 : w1.cell? ⟨g, 9, none⟩ = some (.string ⟨#[]⟩) := hcell 2 (2, [], 5, 4) rfl 1 _ rfl
  have c10 : w1.cell? ⟨g, 10, none⟩ = some (.int .i64 5) := hcell 2 (2, [], 5, 4) rfl 2 _ rfl
  have c11 : w1.cell? ⟨g, 11, none⟩ = some (.int .i64 4) := hcell 2 (2, [], 5, 4) rfl 3 _ rfl
  have c16 : w1.cell? ⟨g, 16, none⟩ = some (.int .i64 5) := hcell 4 (5, [], 0, 10) rfl 0 _ rfl
  have c19 : w1.cell? ⟨g, 19, none⟩ = some (.int .i64 10) := hcell 4 (5, [], 0, 10) rfl 3 _ rfl
  have HK1 := Lib.hid (Kp.trans hk0 hrow.kp)
  clear hrow hcell hk0 hcap
  go_wp2_with fail
  refine (HP.out _ (HM.out.keep HK1.out)).mono ?_
  rintro e w2 ⟨rfl, hk2⟩
  have HK2 := Lib.hid (Kp.trans HK1.out hk2)
  clear hk2
  go_wp2_with fail
  refine (HN.out _).mono ?_
  rintro e w' ⟨rfl, rfl⟩
  go_wp2_with fail
  go_ret
  exact ⟨rfl, HK2.out⟩
end By
end Go.Proofs.YtifhbbjalodplaaDoor
