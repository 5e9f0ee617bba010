/- The law on names and paths: it returns true for all tapes and numbers, and leaves what was there. Condition: a package variable of the library holds some integer. -/
import Derived.Test.YtifhbbjalodplaaDoorLWLaw
namespace Go.Proofs.YtifhbbjalodplaaDoor
namespace By
open Go.RowKit WireN LexN
set_option linter.unusedVariables false
set_option linter.unusedSimpArgs false

set_option maxRecDepth 100000 in
set_option maxHeartbeats 4000000 in
theorem lnames_any {w : World} (hx : MX w) {v : Value} {zs : List Int} (hs : SlI w v zs) (n : Nat) (hn : n < 256) : Calls Tryd.prog 5 #[v, .int .u8 n] w fun e w' => e = .returned (.bool true) ∧ Kp w w' := by
  obtain ⟨ao, len, cap, rfl⟩ := hs.open3
  have HX := Lib.hid hx
  have HT := Lib.hid (Tp.start hs)
  have hni : (n : Int) < 256 := by omega
  clear hx hs
  go_enter Tryd.func5, Tryd.ntmps5
  go_wp2_with fail
  refine (TNext_any HT.out (by omega) 12 (by omega) (by omega)).mono ?_
  rintro e w1 ⟨⟨r, hr, rfl⟩, htp1, -⟩
  have HTP1 := Lib.hid htp1; have HR := Lib.hid hr
  clear htp1 hr
  go_wp2_with fail
  go_loopw [6, 7] (fun s q wr => ∃ (k at3 : Nat) (x : List Nat), q = .int .i64 k ∧ k ≤ r ∧ s = .string (st x) ∧ Lt x ∧ x.length + 60 * k ≤ 720 ∧ Tp w wr w.heap.size at3 ∧ at3 + 30 * k ≤ 400) (fun _ q _ => (intOf q).toNat)
  case atStart => exact ⟨r, 1, [], rfl, Nat.le_refl _, rfl, Lt.nil, by have := HR.out; simp; omega, HTP1.out, by have := HR.out; omega⟩
  case round =>
    obtain ⟨k, at3, x, rfl, hk, rfl, hlx, hxl, htp, hat⟩ := hrel
    rename World => wx
    have HTPX := Lib.hid htp; have HATX := Lib.hid hat; have HLX := Lib.hid hlx; have HXL := Lib.hid hxl
    have hkb : (k : Int) ≤ 12 := by have := HR.out; omega
    obtain ⟨X, hX⟩ : ∃ X, X = st x := ⟨_, rfl⟩
    rw [← hX]
    have HXX := Lib.hid hX
    clear htp hat hlx hxl hX
    by_cases hk0 : 0 < k
    · have hki : (0 : Int) < (k : Int) := by omega
      go_wp2_with fail
      refine (TNext_any HTPX.out (by have := HATX.out; omega) 26 (by omega) (by omega)).mono ?_
      rintro e w2 ⟨⟨r1, hr1, rfl⟩, htp2, -⟩
      have HTP2 := Lib.hid htp2; have HR1 := Lib.hid hr1
      have hr1i : (r1 : Int) < 26 := by omega
      clear htp2 hr1
      go_wp2_with fail
      rw [show (1 : Int) + (r1 : Int) = ((1 + r1 : Nat) : Int) by omega]
      refine (TText_any HTP2.out (1 + r1) (by have := HATX.out; have := HR1.out; omega) _ (by decide) (by decide)).mono ?_
      rintro e w3 ⟨⟨y, hyl, hly, rfl⟩, htp3, -⟩
      have HTP3 := Lib.hid htp3; have HYL := Lib.hid hyl; have HLY := Lib.hid hly
      obtain ⟨Y, hY⟩ : ∃ Y, Y = st y := ⟨_, rfl⟩
      rw [← hY]
      have HYY := Lib.hid hY
      have HKA := Lib.hid (kp_alloc w3 (.cells #[.string ⟨#[47]⟩, .string ⟨#[47]⟩, .string ⟨#[]⟩, .string ⟨#[47, 47]⟩, .string ⟨#[65]⟩] 9))
      have HSR : Hid (Sr (w3.alloc (.cells #[.string ⟨#[47]⟩, .string ⟨#[47]⟩, .string ⟨#[]⟩, .string ⟨#[47, 47]⟩, .string ⟨#[65]⟩] 9)) w3.heap.size N5) := Lib.hid (Sr.new n5)
      have HGX : Hid (w.heap.size < w3.heap.size) := Lib.hid (by obtain ⟨_, _, _, _, _, hb⟩ := HTP3.out.ex; exact hb.lt)
      clear htp3 hyl hly hY
      go_wp2_with fail
      refine (TOne_any (HTP3.out.keep HKA.out) (by have := HATX.out; have := HR1.out; omega) HSR.out rfl (by decide) (by decide) (Nat.le_refl _) (by have := HGX.out; omega)).mono ?_
      rintro e w4 ⟨⟨z, hz, rfl⟩, htp4, -⟩
      have HTP4 := Lib.hid htp4
      have hzl := n5_lt hz
      have a1 : ∀ w, (Op.stringOp .add Y (st z)).run Tryd.prog w = .ok (.string (st (y ++ z))) w := fun w => by rw [HYY.out]; exact add_st (by have := HYL.out; have := HR1.out; omega) w
      have a2 : ∀ w, (Op.stringOp .add X (st (y ++ z))).run Tryd.prog w = .ok (.string (st (x ++ (y ++ z)))) w := fun w => by rw [HXX.out]; exact add_st (by rw [List.length_append]; have := HXL.out; have := HYL.out; have := HR1.out; omega) w
      have HLT : Hid (Lt (x ++ (y ++ z))) := Lib.hid (HLX.out.append (HLY.out.append hzl.1))
      have HLL : Hid ((x ++ (y ++ z)).length + 60 * (k - 1) ≤ 720) := Lib.hid (by rw [List.length_append, List.length_append]; have := HXL.out; have := HYL.out; have := HR1.out; omega)
      obtain ⟨Z, hZ⟩ : ∃ Z, Z = st z := ⟨_, rfl⟩
      obtain ⟨ZY, hZY⟩ : ∃ ZY, ZY = st (y ++ z) := ⟨_, rfl⟩
      obtain ⟨XZY, hXZY⟩ : ∃ XZY, XZY = st (x ++ (y ++ z)) := ⟨_, rfl⟩
      rw [← hZ]
      rw [← hZ, ← hZY] at a1
      rw [← hZY, ← hXZY] at a2
      have HXZ := Lib.hid hXZY
      clear hz htp4 hzl hZ hZY hXZY
      go_wp2_with fail
      go_roundw
      case rel => exact ⟨k - 1, at3 + 1 + (1 + r1) + 1, x ++ (y ++ z), vint (by omega), by omega, by rw [← HXZ.out], HLT.out, HLL.out, HTP4.out, by have := HATX.out; have := HR1.out; omega⟩
      case measure => simp [intOf]; omega
    · have hki : (k : Int) ≤ 0 := by omega
      go_wp2_with fail
      refine (TNext_any HTPX.out (by have := HATX.out; omega) 3 (by omega) (by omega)).mono ?_
      rintro e w2 ⟨⟨r1, hr1, rfl⟩, htp2, -⟩
      have HTP2 := Lib.hid htp2; have HR1 := Lib.hid hr1
      have hr1i : (r1 : Int) < 3 := by omega
      clear htp2 hr1
      go_wp2_with fail
      refine (TText_any HTP2.out r1 (by have := HATX.out; have := HR1.out; omega) _ (by decide) (by decide)).mono ?_
      rintro e w3 ⟨⟨y, hyl, hly, rfl⟩, htp3, -⟩
      have HTP3 := Lib.hid htp3
      have a1 : ∀ w, (Op.stringOp .add X (st y)).run Tryd.prog w = .ok (.string (st (x ++ y))) w := fun w => by rw [HXX.out]; exact add_st (by have := HXL.out; have := HR1.out; omega) w
      have HLT : Hid (Lt (x ++ y)) := Lib.hid (HLX.out.append hly)
      have HLL : Hid ((x ++ y).length ≤ 1000000) := Lib.hid (by rw [List.length_append]; have := HXL.out; have := HR1.out; omega)
      obtain ⟨Y, hY⟩ : ∃ Y, Y = st y := ⟨_, rfl⟩
      obtain ⟨s, hs⟩ : ∃ s, s = x ++ y := ⟨_, rfl⟩
      rw [← hs] at HLT HLL a1
      obtain ⟨S, hS⟩ : ∃ S, S = st s := ⟨_, rfl⟩
      rw [← hY]
      rw [← hY, ← hS] at a1
      have HSS := Lib.hid hS
      obtain ⟨m, hm⟩ : ∃ m, m = n % 30 := ⟨_, rfl⟩
      have em : (n : Int) % 30 = (m : Int) := by omega
      have HM : Hid (m < 30) := Lib.hid (by omega)
      clear htp3 hyl hly hY hs hS hm
      go_wp2_with fail
      clear em
      refine (TText_any HTP3.out m (by have := HATX.out; have := HR1.out; have := HM.out; omega) _ (by decide) (by decide)).mono ?_
      rintro e w4 ⟨⟨u, hul, hlu, rfl⟩, htp4, -⟩
      have HTP4 := Lib.hid htp4
      have hul2 : u.length ≤ 1000000 := by have := HM.out; omega
      have C1 := Lib.hid (fun w => Name_any hlu hul2 w)
      have C2 := Lib.hid (fun w => rName_any hlu hul2 w)
      have C3 := Lib.hid (fun (w : World) (hx : MX w) => Path_mx HLT.out HLL.out hx)
      have C4 := Lib.hid (fun w => rPath_any HLT.out HLL.out w)
      have C5 := Lib.hid (fun (w : World) (hx : MX w) => Path_mx hlu hul2 hx)
      have C6 := Lib.hid (fun w => rPath_any hlu hul2 w)
      have C7 := Lib.hid (fun w => Name_any HLT.out HLL.out w)
      have C8 := Lib.hid (fun w => rName_any HLT.out HLL.out w)
      obtain ⟨U, hU⟩ : ∃ U, U = st u := ⟨_, rfl⟩
      rw [← hU] at C1 C2 C5 C6 ⊢
      rw [← HSS.out] at C3 C4 C7 C8
      obtain ⟨n1, hn1⟩ : ∃ n1, n1 = nameB u := ⟨_, rfl⟩
      obtain ⟨p1, hp1⟩ : ∃ p1, p1 = pathB s := ⟨_, rfl⟩
      obtain ⟨p2, hp2⟩ : ∃ p2, p2 = pathB u := ⟨_, rfl⟩
      obtain ⟨n2, hn2⟩ : ∃ n2, n2 = nameB s := ⟨_, rfl⟩
      rw [← hn1] at C1 C2
      rw [← hp1] at C3 C4
      rw [← hp2] at C5 C6
      rw [← hn2] at C7 C8
      have K4 := Lib.hid htp4.kp
      clear hul hlu hul2 htp4 hU hn1 hp1 hp2 hn2 a1
      go_wp2_with fail
      refine (C1.out _).mono ?_
      rintro e w' ⟨rfl, rfl⟩
      go_wp2_with fail
      refine (C2.out _).mono ?_
      rintro e w' ⟨rfl, rfl⟩
      have e1 : (n1 == n1) = true := by cases n1 <;> rfl
      go_wp2_with fail
      refine (C3.out _ (HX.out.keep K4.out)).mono ?_
      rintro e w5 ⟨rfl, hk⟩
      have K5 := Lib.hid (Kp.trans K4.out hk); clear hk
      go_wp2_with fail
      refine (C4.out _).mono ?_
      rintro e w' ⟨rfl, rfl⟩
      have e2 : (p1 == p1) = true := by cases p1 <;> rfl
      go_wp2_with fail
      refine (C5.out _ (HX.out.keep K5.out)).mono ?_
      rintro e w6 ⟨rfl, hk⟩
      have K6 := Lib.hid (Kp.trans K5.out hk); clear hk
      go_wp2_with fail
      refine (C6.out _).mono ?_
      rintro e w' ⟨rfl, rfl⟩
      have e3 : (p2 == p2) = true := by cases p2 <;> rfl
      go_wp2_with fail
      refine (C7.out _).mono ?_
      rintro e w' ⟨rfl, rfl⟩
      go_wp2_with fail
      refine (C8.out _).mono ?_
      rintro e w' ⟨rfl, rfl⟩
      have e4 : (n2 == n2) = true := by cases n2 <;> rfl
      go_wp2_with fail
      refine (awake_any (HX.out.keep K6.out)).mono ?_
      rintro e w7 ⟨rfl, hk⟩
      have K7 := Lib.hid (Kp.trans K6.out hk); clear hk
      go_wp2_with fail
      go_ret
      exact ⟨rfl, K7.out⟩
end By
end Go.Proofs.YtifhbbjalodplaaDoor

