/- The statement on deep texts: the law returns true for all numbers. Condition: the package variables that the code reads lie in memory. -/
import Derived.Test.YtmflgfojicaecaaGreatDoorMFo
import Derived.Test.YtmflgfojicaecaaGreatDoorSDpA
namespace Go.Proofs.YtmflgfojicaecaaGreatDoor
namespace By
open Go.RowKit WireN LexN SrcN
set_option linter.unusedVariables false
set_option linter.unusedSimpArgs false

theorem st_app5 (a b : List Nat) : st a ++ st b = st (a ++ b) := by
  unfold st
  rw [List.map_append]
  have : ∀ (x y : List UInt8), (⟨x.toArray⟩ : ByteArray) ++ ⟨y.toArray⟩ = ⟨(x ++ y).toArray⟩ := fun x y => by
    apply ByteArray.ext
    simp
  rw [this]
theorem add_st5 {a b : List Nat} (h : a.length + b.length ≤ 1000000) (w : World) : (Op.stringOp .add (st a) (st b)).run Tryz.prog w = .ok (.string (st (a ++ b))) w := by
  rw [run_string_add_sum w (st a) (st b) (by rw [st_size, st_size]; omega), st_app5]
theorem opn_at {c : Nat} (h : c < 3) : (#[Value.string ⟨#[40]⟩, Value.string ⟨#[102, 40]⟩, Value.string ⟨#[105, 102, 32, 49, 32, 116, 104, 101, 110, 32, 49, 32, 101, 108, 115, 101, 32]⟩] : Array Value)[c]? = some (.string (st (opn c))) := by
  obtain rfl | rfl | rfl : c = 0 ∨ c = 1 ∨ c = 2 := by omega
  all_goals rfl
theorem cls_at {c : Nat} (h : c < 3) : (#[Value.string ⟨#[41]⟩, Value.string ⟨#[41]⟩, Value.string ⟨#[]⟩] : Array Value)[c]? = some (.string (st (cls c))) := by
  obtain rfl | rfl | rfl : c = 0 ∨ c = 1 ∨ c = 2 := by omega
  all_goals rfl
theorem deep_lt (c k : Nat) : Lt (deepT c k) := by
  have h1 : Lt (opn c) := by unfold opn; split <;> (try split) <;> exact const_lt (by decide)
  have h2 : Lt (cls c) := by unfold cls; split <;> exact const_lt (by decide)
  induction k with
  | zero => exact (show Lt [49] from const_lt (by decide))
  | succ k ih => exact (h1.append ih).append h2
theorem plus_lt (m : Nat) : Lt (plusT m) := by
  induction m with
  | zero => exact (show Lt [49] from const_lt (by decide))
  | succ m ih => exact ih.append (const_lt (by decide))
set_option maxRecDepth 100000 in
set_option maxHeartbeats 800000 in
theorem deep_any {w : World} (hG : Glob w) (hT : Tab10 w) (n : Nat) (hn : n < 256) (kd : Nat) (hk : kd < 256) : Calls Tryz.prog 7 #[.int .u8 (n : Nat), .int .u8 (kd : Nat)] w fun e w' => e = .returned (.bool true) ∧ Kp w w' := by
  have HG := Lib.hid hG; have HT := Lib.hid hT
  obtain ⟨j, hj⟩ : ∃ j, j = n % 4 := ⟨_, rfl⟩
  obtain ⟨i3, hi3⟩ : ∃ j, j = n % 3 := ⟨_, rfl⟩
  obtain ⟨c, hc⟩ : ∃ j, j = kd % 3 := ⟨_, rfl⟩
  have e4 : (n : Int) % 4 = (j : Int) := by omega
  have e3 : (n : Int) % 3 = (i3 : Int) := by omega
  have ek : (kd : Int) % 3 = (c : Int) := by omega
  have ek' : kd % 3 = c := by omega
  have hj4 : j < 4 := by omega
  have hi34 : i3 < 3 := by omega
  have hc3 : c < 3 := by omega
  obtain ⟨W1, hW1⟩ : ∃ W1, W1 = w.alloc (Obj.cells #[.string ⟨#[40]⟩, .string ⟨#[102, 40]⟩, .string ⟨#[105, 102, 32, 49, 32, 116, 104, 101, 110, 32, 49, 32, 101, 108, 115, 101, 32]⟩] 9) := ⟨_, rfl⟩
  obtain ⟨W2, hW2⟩ : ∃ W2, W2 = W1.alloc (Obj.cells #[.string ⟨#[41]⟩, .string ⟨#[41]⟩, .string ⟨#[]⟩] 9) := ⟨_, rfl⟩
  have k1 : Kp w W1 := by rw [hW1]; exact kp_alloc _ _
  have k2 : Kp W1 W2 := by rw [hW2]; exact kp_alloc _ _
  have K2 := Lib.hid (Kp.trans k1 k2)
  have b1 := Blk.new w 9 #[.string ⟨#[40]⟩, .string ⟨#[102, 40]⟩, .string ⟨#[105, 102, 32, 49, 32, 116, 104, 101, 110, 32, 49, 32, 101, 108, 115, 101, 32]⟩]
  rw [← hW1] at b1
  have b2 := Blk.new W1 9 #[.string ⟨#[41]⟩, .string ⟨#[41]⟩, .string ⟨#[]⟩]
  rw [← hW2] at b2
  have z1 : W1.heap.size = w.heap.size + 1 := by rw [hW1]; simp
  have c1 := b1.cell c (opn_at hc3)
  have c2 := b2.cell c (cls_at hc3)
  rw [z1] at c2
  have HW1 := Lib.hid hW1; have HW2 := Lib.hid hW2
  rw [hW2, hW1] at c2
  rw [hW1] at c1
  clear hj hi3 hc hG hT k1 k2 b1 b2 z1 hW1 hW2
  go_enter Tryz.func7, Tryz.ntmps7
  go_wp2_with fail
  rw [← HW1.out, ← HW2.out]
  clear c1 c2 ek ek' e4
  go_loopw [8, 9] (fun sv iv wy => ∃ i : Nat, i ≤ 30 + j ∧ iv = .int .i64 i ∧ sv = .string (st (deepT c i)) ∧ wy = W2) (fun _ iv _ => 30 + j - (intOf iv).toNat)
  case atStart => exact ⟨0, Nat.zero_le _, rfl, rfl, rfl⟩
  case round =>
    obtain ⟨i, hi, rfl, rfl, rfl⟩ := hrel
    have hdl := deepT_len c i
    have hol : (opn c).length ≤ 17 := by unfold opn; split <;> (try split) <;> simp
    have hcl : (cls c).length ≤ 1 := by unfold cls; split <;> simp
    by_cases hil : i < 30 + j
    · have a1 : ∀ w, (Op.stringOp .add (st (opn c)) (st (deepT c i))).run Tryz.prog w = .ok (.string (st (opn c ++ deepT c i))) w := fun w => add_st5 (by omega) w
      have a2 : ∀ w, (Op.stringOp .add (st (opn c ++ deepT c i)) (st (cls c))).run Tryz.prog w = .ok (.string (st (deepT c (i + 1)))) w := fun w => by
        have := add_st5 (a := opn c ++ deepT c i) (b := cls c) (by rw [List.length_append]; omega) w
        exact this
      clear hdl hol hcl
      go_wp2_with fail
      go_roundw
      case rel => exact ⟨i + 1, by omega, vint (by omega), rfl, by first | trivial | rfl⟩
      case measure => simp [intOf]; omega
    · have hie : i = 30 + j := by omega
      obtain ⟨R, hR, hR2⟩ := deep_all hc3 hj4
      rw [← hie] at hR
      obtain ⟨SA, hSA⟩ : ∃ S, S = st (preD ++ deepT c i) := ⟨_, rfl⟩
      obtain ⟨S3, hS3⟩ : ∃ S, S = st (preD ++ deepT c i ++ [59]) := ⟨_, rfl⟩
      have a1 : ∀ w, (Op.stringOp .add ⟨#[112, 97, 99, 107, 97, 103, 101, 32, 112, 59, 32, 116, 101, 115, 116, 32, 116, 32, 61, 32]⟩ (st (deepT c i))).run Tryz.prog w = .ok (.string SA) w := fun w => by rw [hSA]; exact add_st5 (a := preD) (by simp [preD]; omega) w
      have a2 : ∀ w, (Op.stringOp .add SA ⟨#[59]⟩).run Tryz.prog w = .ok (.string S3) w := fun w => by rw [hSA, hS3]; exact add_st5 (b := [59]) (by simp [preD]; omega) w
      have CP := Lib.hid (parse_st (((const_lt (x := preD) (by decide)).append (deep_lt c i)).append (const_lt (x := [59]) (by decide))) (HG.out.kp' K2.out) hR)
      obtain ⟨E, hE⟩ : ∃ E, E = R.2.2 := ⟨_, rfl⟩
      have HE : Hid (E = if 30 + j < 32 then 0 else 2) := Lib.hid (by rw [hE, hR2])
      rw [← hS3] at CP
      have tb : decide ((i : Int) < 30 + (j : Int)) = false := decide_eq_false (by omega)
      clear hdl hol hcl hR hR2 hi hil hie hSA hS3
      go_wp2_with fail
      refine CP.out.mono ?_
      rintro e W3 ⟨iv, dv, xs, rfl, hsrc, hk3⟩
      obtain ⟨D, hs1, hs2, -, -⟩ := hsrc.ex
      obtain ⟨io, ic', hiv⟩ := row_open hs1.own
      obtain ⟨do', dc', hdv⟩ := row_open hs2.row.own
      have HK3 := Lib.hid (Kp.trans K2.out hk3)
      obtain ⟨PS, hPS⟩ : ∃ x, x = st R.1.pk := ⟨_, rfl⟩
      obtain ⟨il2, hil2⟩ : ∃ x, x = R.1.im.length := ⟨_, rfl⟩
      obtain ⟨dl2, hdl2⟩ : ∃ x, x = R.1.dc.length := ⟨_, rfl⟩
      obtain ⟨A, hA⟩ : ∃ x, x = R.2.1 := ⟨_, rfl⟩
      rw [← hPS, ← hA, ← hE]
      rw [← hil2] at hiv
      rw [← hdl2] at hdv
      subst hiv hdv
      obtain ⟨W4, hW4⟩ : ∃ W, W = W3.alloc (Obj.cells #[.string PS, .slice io il2 ic', .slice do' dl2 dc'] 29) := ⟨_, rfl⟩
      have HW4 := Lib.hid hW4
      have HK4 : Hid (Kp w W4) := Lib.hid (by rw [hW4]; exact Kp.trans HK3.out (kp_alloc _ _))
      have hEc : (E = 0 ∧ decide ((30 : Int) + (j : Int) < 32) = true) ∨ (E = 2 ∧ decide ((30 : Int) + (j : Int) < 32) = false) := by
        by_cases h0 : 30 + j < 32
        · exact .inl ⟨by rw [HE.out, if_pos h0], decide_eq_true (by omega)⟩
        · exact .inr ⟨by rw [HE.out, if_neg h0], decide_eq_false (by omega)⟩
      obtain ⟨m, hm⟩ : ∃ m, m = 127 + i3 := ⟨_, rfl⟩
      have em : (127 : Int) + (i3 : Int) = (m : Int) := by omega
      have hm9 : m ≤ 129 := by omega
      have HM := Lib.hid hm
      obtain ⟨R2, hR2a, hR2b⟩ := plus_all hi34
      rw [← hm] at hR2a
      have CP2 : Hid (∀ W, Kp w W → Calls Tryz.prog 18 #[.string (st (preD ++ plusT m ++ [59]))] W (AnsP R2 W)) := Lib.hid (fun W hk => parse_st (((const_lt (x := preD) (by decide)).append (plus_lt m)).append (const_lt (x := [59]) (by decide))) (HG.out.kp' hk) hR2a)
      have HR2b := Lib.hid hR2b
      clear hsrc hk3 hs1 hs2 hPS hil2 hdl2 hA hE hW4 hm hR2a hR2b HE
      rcases hEc with ⟨hz, hb⟩ | ⟨hz, hb⟩
      all_goals
        subst hz
        go_wp2_with fail
        rw [← HW4.out]
        clear a1 a2 hb
        go_loopw [8, 14] (fun sv iv wy => ∃ i : Nat, i ≤ m ∧ iv = .int .i64 i ∧ sv = .string (st (plusT i)) ∧ wy = W4) (fun _ iv _ => m - (intOf iv).toNat)
        case atStart => exact ⟨0, Nat.zero_le _, rfl, rfl, rfl⟩
        case round =>
          obtain ⟨i, hi, rfl, rfl, rfl⟩ := hrel
          have hpl := plusT_len i
          by_cases hil : i < m
          · have a1 : ∀ w, (Op.stringOp .add (st (plusT i)) ⟨#[43, 49]⟩).run Tryz.prog w = .ok (.string (st (plusT (i + 1)))) w := fun w => add_st5 (a := plusT i) (b := [43, 49]) (by simp; omega) w
            clear hpl
            go_wp2_with fail
            go_roundw
            case rel => exact ⟨i + 1, by omega, vint (by omega), rfl, by first | trivial | rfl⟩
            case measure => simp [intOf]; omega
          · have hie : i = m := by omega
            obtain ⟨SA, hSA⟩ : ∃ S, S = st (preD ++ plusT i) := ⟨_, rfl⟩
            obtain ⟨S3, hS3⟩ : ∃ S, S = st (preD ++ plusT i ++ [59]) := ⟨_, rfl⟩
            have a1 : ∀ w, (Op.stringOp .add ⟨#[112, 97, 99, 107, 97, 103, 101, 32, 112, 59, 32, 116, 101, 115, 116, 32, 116, 32, 61, 32]⟩ (st (plusT i))).run Tryz.prog w = .ok (.string SA) w := fun w => by rw [hSA]; exact add_st5 (a := preD) (by simp [preD]; omega) w
            have a2 : ∀ w, (Op.stringOp .add SA ⟨#[59]⟩).run Tryz.prog w = .ok (.string S3) w := fun w => by rw [hSA, hS3]; exact add_st5 (b := [59]) (by simp [preD]; omega) w
            have CP3 := Lib.hid (CP2.out _ HK4.out)
            rw [← hie, ← hS3] at CP3
            obtain ⟨E2, hE2⟩ : ∃ E, E = R2.2.2 := ⟨_, rfl⟩
            have HE2 : Hid (E2 = if 2 * (127 + i3) + 1 ≤ 256 then 0 else 2) := Lib.hid (by rw [hE2, HR2b.out])
            obtain ⟨p, hp⟩ : ∃ p, p = 2 * m := ⟨_, rfl⟩
            have ep : (2 : Int) * (m : Int) = (p : Int) := by omega
            have hp9 : p ≤ 258 := by omega
            have HP : Hid (p = 2 * (127 + i3)) := Lib.hid (by have := HM.out; omega)
            clear hpl hie hp hSA hS3
            go_wp2_with fail
            refine CP3.out.mono ?_
            rintro e W6 ⟨iv2, dv2, xs2, rfl, hsrc2, hk6⟩
            obtain ⟨D', hs3, hs4, -, -⟩ := hsrc2.ex
            obtain ⟨io2, ic2, hiv2⟩ := row_open hs3.own
            obtain ⟨do2, dc2, hdv2⟩ := row_open hs4.row.own
            rw [← hE2]
            subst hiv2 hdv2
            have HK6 := Lib.hid (Kp.trans HK4.out hk6)
            have AW := Lib.hid (awake5_any (HG.out.kp' HK6.out) (tab_keep HT.out HK6.out))
            have hE2c : (E2 = 0 ∧ decide ((p : Int) + 1 ≤ 256) = true) ∨ (E2 = 2 ∧ decide ((p : Int) + 1 ≤ 256) = false) := by
              have hpp := HP.out
              by_cases h0 : 2 * (127 + i3) + 1 ≤ 256
              · exact .inl ⟨by rw [HE2.out, if_pos h0], decide_eq_true (by omega)⟩
              · exact .inr ⟨by rw [HE2.out, if_neg h0], decide_eq_false (by omega)⟩
            clear hk6 hsrc2 hs3 hs4 hE2
            rcases hE2c with ⟨hz2, hb2⟩ | ⟨hz2, hb2⟩
            all_goals
              subst hz2
              go_wp2_with fail
              refine AW.out.mono ?_
              rintro e W7 ⟨rfl, hk7⟩
              have HK7 := Lib.hid (Kp.trans HK6.out hk7)
              clear hk7
              go_wp2_with fail
              go_ret
              exact ⟨rfl, HK7.out⟩
end By
end Go.Proofs.YtmflgfojicaecaaGreatDoor
