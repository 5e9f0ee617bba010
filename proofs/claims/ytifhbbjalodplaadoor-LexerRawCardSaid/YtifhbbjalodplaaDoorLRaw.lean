/- The law on any strings: it returns true, and leaves what was there. Condition: a package variable of the library holds some integer. -/
import Derived.Test.YtifhbbjalodplaaDoorLSame
namespace Go.Proofs.YtifhbbjalodplaaDoor
namespace By
open Go.RowKit WireN LexN
set_option linter.unusedVariables false
set_option linter.unusedSimpArgs false

set_option maxRecDepth 100000 in
set_option maxHeartbeats 4000000 in
theorem raw_st {l m : List Nat} (hl : Lt l) (hm : Lt m) {w : World} (hx : MX w) : Calls Tryd.prog 3 #[.string (st l), .string (st m)] w fun e w' => e = .returned (.bool true) ∧ Kp w w' := by
  have HX := Lib.hid hx
  have H1 := Lib.hid (fun w => limited_any (l := l) w)
  have H2 := Lib.hid (fun w => limited_any (l := m) w)
  obtain ⟨a, ha⟩ : ∃ a, a = l.take 2000 := ⟨_, rfl⟩
  obtain ⟨b, hb⟩ : ∃ b, b = m.take 2000 := ⟨_, rfl⟩
  have hla : Lt a := ha ▸ hl.take 2000
  have hlb : Lt b := hb ▸ hm.take 2000
  have hza : a.length ≤ 2000 := by rw [ha, List.length_take]; omega
  have hzb : b.length ≤ 2000 := by rw [hb, List.length_take]; omega
  have hq : Lt ([34] ++ b ++ [34]) := (Lt.append (Lt.append (Lt.one (by omega)) hlb) (Lt.one (by omega)))
  have hp : Lt ([97, 47] ++ b) := Lt.append (Lt.cons (by omega) (Lt.one (by omega))) hlb
  have C1 := Lib.hid (fun w => same_any hla w)
  have C2 := Lib.hid (fun w => same_any hq w)
  have C3 := Lib.hid (fun w => Name_any hla (by omega) w)
  have C4 := Lib.hid (fun w => rName_any hla (by omega) w)
  have C5 := Lib.hid (fun (w : World) (hx : MX w) => Path_mx hla (by omega) hx)
  have C6 := Lib.hid (fun w => rPath_any hla (by omega) w)
  have C7 := Lib.hid (fun (w : World) (hx : MX w) => Path_mx hlb (by omega) hx)
  have C8 := Lib.hid (fun w => rPath_any hlb (by omega) w)
  have C9 := Lib.hid (fun (w : World) (hx : MX w) => Path_mx hp (by simp; omega) hx)
  have C10 := Lib.hid (fun w => rPath_any hp (by simp; omega) w)
  have hc1 : ∀ w, (Op.stringOp .add ⟨#[34]⟩ (st b)).run Tryd.prog w = .ok (.string (st ([34] ++ b))) w := fun w => add_st (a := [34]) (by simp; omega) w
  have hc2 : ∀ w, (Op.stringOp .add (st ([34] ++ b)) ⟨#[34]⟩).run Tryd.prog w = .ok (.string (st ([34] ++ b ++ [34]))) w := fun w => add_st (b := [34]) (by simp; omega) w
  have hc3 : ∀ w, (Op.stringOp .add ⟨#[97, 47]⟩ (st b)).run Tryd.prog w = .ok (.string (st ([97, 47] ++ b))) w := fun w => add_st (a := [97, 47]) (by simp; omega) w
  obtain ⟨A, hA⟩ : ∃ A, A = st a := ⟨_, rfl⟩
  obtain ⟨B, hB⟩ : ∃ B, B = st b := ⟨_, rfl⟩
  obtain ⟨Q1, hQ1⟩ : ∃ Q1, Q1 = st ([34] ++ b) := ⟨_, rfl⟩
  obtain ⟨Q2, hQ2⟩ : ∃ Q2, Q2 = st ([34] ++ b ++ [34]) := ⟨_, rfl⟩
  obtain ⟨P1, hP1⟩ : ∃ P1, P1 = st ([97, 47] ++ b) := ⟨_, rfl⟩
  rw [← ha, ← hA] at H1
  rw [← hb, ← hB] at H2
  rw [← hA] at C1 C3 C4 C5 C6
  rw [← hB] at C7 C8 hc1 hc3
  rw [← hQ1] at hc1 hc2
  rw [← hQ2] at C2 hc2
  rw [← hP1] at C9 C10 hc3
  obtain ⟨n1, hn1⟩ : ∃ n1, n1 = nameB a := ⟨_, rfl⟩
  obtain ⟨p1, hp1⟩ : ∃ p1, p1 = pathB a := ⟨_, rfl⟩
  obtain ⟨p2, hp2⟩ : ∃ p2, p2 = pathB b := ⟨_, rfl⟩
  obtain ⟨p3, hp3⟩ : ∃ p3, p3 = pathB ([97, 47] ++ b) := ⟨_, rfl⟩
  rw [← hn1] at C3 C4
  rw [← hp1] at C5 C6
  rw [← hp2] at C7 C8
  rw [← hp3] at C9 C10
  obtain ⟨S, hS⟩ : ∃ S, S = st l := ⟨_, rfl⟩
  obtain ⟨U, hU⟩ : ∃ U, U = st m := ⟨_, rfl⟩
  rw [← hS] at H1
  rw [← hU] at H2
  rw [← hS, ← hU]
  clear ha hb hla hlb hza hzb hq hp hA hB hQ1 hQ2 hP1 hn1 hp1 hp2 hp3 hS hU hl hm hx
  go_enter Tryd.func3, Tryd.ntmps3
  go_wp2_with fail
  refine (H1.out _).mono ?_
  rintro e w' ⟨rfl, rfl⟩
  go_wp2_with fail
  refine (H2.out _).mono ?_
  rintro e w' ⟨rfl, rfl⟩
  go_wp2_with fail
  refine (C1.out _).mono ?_
  rintro e w1 ⟨rfl, hk⟩
  have K1 := Lib.hid hk; clear hk
  go_wp2_with fail
  refine (C2.out _).mono ?_
  rintro e w2 ⟨rfl, hk⟩
  have K2 := Lib.hid (Kp.trans K1.out hk); clear hk
  go_wp2_with fail
  refine (C3.out _).mono ?_
  rintro e w' ⟨rfl, rfl⟩
  go_wp2_with fail
  refine (C4.out _).mono ?_
  rintro e w' ⟨rfl, rfl⟩
  have e1 : (n1 == n1) = true := by cases n1 <;> rfl
  go_wp2_with fail
  refine (C5.out _ (HX.out.keep K2.out)).mono ?_
  rintro e w3 ⟨rfl, hk⟩
  have K3 := Lib.hid (Kp.trans K2.out hk); clear hk
  go_wp2_with fail
  refine (C6.out _).mono ?_
  rintro e w' ⟨rfl, rfl⟩
  have e2 : (p1 == p1) = true := by cases p1 <;> rfl
  go_wp2_with fail
  refine (C7.out _ (HX.out.keep K3.out)).mono ?_
  rintro e w4 ⟨rfl, hk⟩
  have K4 := Lib.hid (Kp.trans K3.out hk); clear hk
  go_wp2_with fail
  refine (C8.out _).mono ?_
  rintro e w' ⟨rfl, rfl⟩
  have e3 : (p2 == p2) = true := by cases p2 <;> rfl
  go_wp2_with fail
  refine (C9.out _ (HX.out.keep K4.out)).mono ?_
  rintro e w5 ⟨rfl, hk⟩
  have K5 := Lib.hid (Kp.trans K4.out hk); clear hk
  go_wp2_with fail
  refine (C10.out _).mono ?_
  rintro e w' ⟨rfl, rfl⟩
  have e4 : (p3 == p3) = true := by cases p3 <;> rfl
  go_wp2_with fail
  refine (awake_any (HX.out.keep K5.out)).mono ?_
  rintro e w6 ⟨rfl, hk⟩
  have K6 := Lib.hid (Kp.trans K5.out hk); clear hk
  go_wp2_with fail
  go_ret
  exact ⟨rfl, K6.out⟩
theorem raw_any {w : World} (hx : MX w) (s : ByteArray) (hs : s.size ≤ 140737488351232) (u : ByteArray) (hu : u.size ≤ 140737488351232) : Calls Tryd.prog 3 #[.string s, .string u] w fun e w' => e = .returned (.bool true) ∧ Kp w w' := by
  have h := raw_st (bs_lt s) (bs_lt u) hx
  rw [st_bs, st_bs] at h
  exact h
end By
end Go.Proofs.YtifhbbjalodplaaDoor
