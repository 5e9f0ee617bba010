/- The law that levels applied twice are as once. Conditions: a package variable of the library holds some integer, the table of levels lies as its text lays it. -/
import Derived.Test.YtpgnckjgclbepaaDoorKyL
import Derived.Test.YtpgnckjgclbepaaDoorMkK
namespace Go.Proofs.YtpgnckjgclbepaaDoor
namespace By
open Go.RowKit WireN LexN RevN KeyN
set_option linter.unusedVariables false
set_option linter.unusedSimpArgs false

theorem OwK.gr {w wr w1 : World} {v : Value} {ks : List Ky} {g : Nat} (h : OwK w wr v ks) (hg : Gr g wr w1) (hge : w.heap.size ≤ g) (hne : ∀ b, v.ownBlock = some b → b ≠ g) : OwK w w1 v ks := by
  refine ⟨?_, h.ok, Gr.kp hg h.kp hge⟩
  refine World.ownsRow.kept (row := some g) h.owns hg ?_
  rcases h.owns.2 with ⟨rfl, _⟩ | ⟨g', cap', cur, rfl, hb', _⟩
  · exact .inl rfl
  · right; intro e; exact hne g' rfl (by simpa [Value.ownBlock] using e)
/-- A tape that was just made. -/
theorem Tq.new {w : World} {ao : Option Addr} {n cap : Nat} {zs : List Int} (h : SlI w (.slice ao n cap) zs) (m : Nat) (hm : m ≤ 1000000) : Tq w (w.alloc (.cells #[.slice ao n cap, .int .i64 0] 26)) w.heap.size m :=
  ⟨0, by omega, ⟨⟨ao, n, cap, zs, h, Blk.new _ _ _⟩, kp_alloc _ _, Nat.le_refl _⟩⟩
theorem keysL_len (n : Int) (ks : List Ky) : (keysL n ks).length ≤ ks.length := by
  unfold keysL
  split
  · have := setK_len (ks.map (upK n.toNat))
    rw [List.length_map] at this
    exact this
  · simp
set_option maxRecDepth 100000 in
set_option maxHeartbeats 8000000 in
theorem twice_any {v : Value} {xs : List Int} {w : World} (hm : MX w) (hc : CO w) (hx : SlI w v xs) :
    Calls Tryd.prog 4 #[v] w fun e w' => e = .returned (.bool true) ∧ Kp w w' := by
  obtain ⟨ao, cap, rfl, -, -, -⟩ := hx.ex
  obtain ⟨g, hg⟩ : ∃ g, g = w.heap.size := ⟨_, rfl⟩
  obtain ⟨W1, hW1⟩ : ∃ W, W = w.alloc (.cells #[.slice ao xs.length cap, .int .i64 0] 26) := ⟨_, rfl⟩
  have HT : Hid (Tq w W1 g 100) := Lib.hid (by rw [hW1, hg]; exact Tq.new hx 100 (by omega))
  have HW1 := Lib.hid hW1; have HG := Lib.hid hg
  have HN := Lib.hid (Next_q (n := 99) HT.out 8 (by omega) (by omega))
  have HM := Lib.hid hm; have HC := Lib.hid hc
  obtain ⟨L, hL⟩ : ∃ L, L = xs.length := ⟨_, rfl⟩
  rw [← hL] at HW1 ⊢
  clear hg hW1 hm hc hx hL
  go_enter Tryd.func4, Tryd.ntmps4
  go_wp2_with fail
  rw [← HW1.out, ← HG.out]
  refine HN.out.mono ?_
  rintro e w1 ⟨⟨r, hr, rfl⟩, hq1, -⟩
  have HQ1 := Lib.hid hq1
  have hri : (r : Int) < 8 := by omega
  clear hq1
  go_wp2_with fail
  go_loopw [4, 5] (fun o i wr => ∃ (r : Nat) (vo : Value) (ks : List Ky), i = .int .i64 (r : Nat) ∧ o = vo ∧ ks.length + r ≤ 7 ∧ OwK w wr vo ks ∧ (∀ b, vo.ownBlock = some b → b ≠ g) ∧ (∀ x ∈ ks, KyS x ∧ chkK x = true) ∧ Tq w wr g (3 * r + 3)) (fun _ i _ => (intOf i).toNat)
  case atStart => exact ⟨r, _, [], rfl, rfl, by simp; omega, (OwK.start w).keep HQ1.out.base, fun b hb => by simp [Value.ownBlock] at hb, fun x hx => by simp at hx, HQ1.out.less (by omega)⟩
  case round =>
    obtain ⟨r, vo, ks, rfl, rfl, hlen, hown, hneg, hall, hq⟩ := hrel
    rename World => wx
    have HOWN := Lib.hid hown; have HNEG := Lib.hid hneg; have HALL := Lib.hid hall; have HQ := Lib.hid hq
    obtain ⟨⟨oa, ol, oc, rfl⟩, -⟩ := row_frm hown.owns
    clear hown hneg hall hq
    by_cases hr0 : 0 < r
    · obtain ⟨r, rfl⟩ : ∃ s, r = s + 1 := ⟨r - 1, by omega⟩
      have hri : (0 : Int) < (r : Int) + 1 := by omega
      have HMK := Lib.hid (MKey_q (n := 3 * r + 3) (HQ.out.less (by omega)))
      clear hr0
      go_wp2_with fail
      refine HMK.out.mono ?_
      rintro e w2 ⟨⟨x, rfl, hxs, hxc⟩, hq2, hg2⟩
      have hgge : w.heap.size ≤ g := HQ.out.ge
      have HXS := Lib.hid hxs; have HXC := Lib.hid hxc
      have HO2 := Lib.hid ((HOWN.out.gr hg2 hgge HNEG.out).keep (kp_alloc w2 (.cells #[.int .i64 x.1, .string (st x.2.1), .string (st x.2.2)] 29)))
      have HQ2 := Lib.hid (hq2.keep (kp_alloc w2 (.cells #[.int .i64 x.1, .string (st x.2.1), .string (st x.2.2)] 29)))
      have HBN := Lib.hid (Blk.new w2 29 #[.int .i64 x.1, .string (st x.2.1), .string (st x.2.2)])
      have hglt := hq2.lt
      obtain ⟨x1, x2, x3⟩ := x
      simp only [vK] at HO2 HQ2 HBN ⊢
      clear hxs hxc hq2 hg2
      go_wp2_with (at_builtin; refine wpList_ky (w := w) rfl (.tmp 23) (.tmp 26) rfl _ rfl HO2.out (by omega) (x1, x2, x3) HXS.out.ok w2.heap.size rfl HBN.out ?_)
      intro v' w3 ho3 hg3 ha3
      have HN3 : Hid (∀ b, v'.ownBlock = some b → b ≠ g) := Lib.hid (fun b hb => by
        rcases ha3 with e | e
        · rw [e] at hb; exact HNEG.out b hb
        · rw [e] at hb; injection hb with hb; rw [← hb]; simp; omega)
      have HQ3 : Hid (Tq w w3 g (3 * r + 3)) := Lib.hid (HQ2.out.by hg3 (fun k hk => ⟨((row_frm HO2.out.owns).2 k hk).1, fun e => HNEG.out k hk e.symm⟩))
      have HO3 := Lib.hid ho3
      have HA3 : Hid (∀ x ∈ ks ++ [((x1, x2, x3) : Ky)], KyS x ∧ chkK x = true) := Lib.hid (fun y hy => by
        rcases List.mem_append.1 hy with h | h
        · exact HALL.out y h
        · obtain rfl : y = (x1, x2, x3) := by simpa using h
          exact ⟨HXS.out, HXC.out⟩)
      obtain ⟨⟨va, vl, vc, rfl⟩, -⟩ := row_frm ho3.owns
      clear ho3 hg3 ha3
      go_wp2_with fail
      go_roundw
      case rel => exact ⟨r, _, _, by go_num, rfl, by simp; omega, HO3.out, HN3.out, HA3.out, HQ3.out⟩
      case measure => simp [intOf]
    · have hri0 : (r : Int) ≤ 0 := by omega
      have hdr : decide (0 < r) = false := decide_eq_false hr0
      have HKW := Lib.hid HOWN.out.kw
      have HKP := Lib.hid HOWN.out.kp
      have hl7 : ks.length ≤ 7 := by omega
      have HAC : Hid (ks.all chkK = true) := Lib.hid (List.all_eq_true.2 fun x hx => (HALL.out x hx).2)
      have HL7 := Lib.hid hl7
      clear hlen hr0
      go_wp2_with fail
      go_loopw [6] (fun s wr => ∃ n : Nat, s = .int .i64 (n : Nat) ∧ 1 ≤ n ∧ n ≤ 4 ∧ Kp wx wr) (fun s _ => 4 - (intOf s).toNat)
      case atStart => exact ⟨1, rfl, Nat.le_refl _, by omega, Kp.refl _⟩
      case round =>
        obtain ⟨n, rfl, hn1, hn4, hkp⟩ := hrel
        rename World => wy
        have HKY := Lib.hid hkp
        have HMY := Lib.hid (HM.out.keep (Kp.trans HKP.out hkp)); have HCY := Lib.hid (HC.out.keep (Kp.trans HKP.out hkp))
        clear hkp
        by_cases hn3 : n ≤ 3
        · have hni : (n : Int) ≤ 3 := by omega
          have HTW := Lib.hid (fun m (h1 : n ≤ m) (h2 : m ≤ 3) => keys_twice HAC.out hn1 h1 h2)
          have HK1 := Lib.hid (Keys_any n (HKW.out.keep HKY.out) (by omega) HMY.out HCY.out)
          have HE1 := Lib.hid (HTW.out n (Nat.le_refl _) hn3).1
          rw [HE1.out] at HK1
          go_wp2_with fail
          refine HK1.out.mono ?_
          rintro e w2 ⟨u, rfl, hku, -, hk2⟩
          have HKU := Lib.hid hku; have HK2 := Lib.hid (Kp.trans HKY.out hk2)
          have HLU : Hid ((keysL n ks).length ≤ 7) := Lib.hid (by have := keysL_len n ks; omega)
          obtain ⟨ua, uc, rfl, -, -, -⟩ := hku.open3
          clear hku hk2
          go_wp2_with fail
          go_loopw [9] (fun s wr => ∃ m : Nat, s = .int .i64 (m : Nat) ∧ n ≤ m ∧ m ≤ 4 ∧ Kp w2 wr) (fun s _ => 4 - (intOf s).toNat)
          case atStart => exact ⟨n, rfl, Nat.le_refl _, by omega, Kp.refl _⟩
          case round =>
            obtain ⟨m, rfl, hnm, hm4, hkp⟩ := hrel
            rename World => wz
            have HKZ := Lib.hid (Kp.trans HK2.out hkp)
            have HKUZ := Lib.hid (HKU.out.keep hkp)
            have HMZ := Lib.hid (HM.out.keep (Kp.trans HKP.out HKZ.out)); have HCZ := Lib.hid (HC.out.keep (Kp.trans HKP.out HKZ.out))
            have HKPZ := Lib.hid hkp
            clear hkp
            by_cases hm3 : m ≤ 3
            · have hmi : (m : Int) ≤ 3 := by omega
              obtain ⟨-, t2, t3, t4⟩ := HTW.out m hnm hm3
              have HKA := Lib.hid (Keys_any m HKUZ.out (by have := HLU.out; omega) HMZ.out HCZ.out)
              rw [t3, t4] at HKA
              have HTT := Lib.hid t2
              clear t2 t3 t4
              go_wp2_with fail
              refine HKA.out.mono ?_
              rintro e w3 ⟨u3, rfl, hk3w, -, hk3⟩
              have HK3 := Lib.hid hk3; have HW3 := Lib.hid hk3w
              obtain ⟨a3, c3, rfl, -, -, -⟩ := hk3w.open3
              have HKB := Lib.hid (Keys_any m (HKW.out.keep (Kp.trans HKZ.out hk3)) (by have := HL7.out; omega) (HMZ.out.keep hk3) (HCZ.out.keep hk3))
              rw [HTT.out] at HKB
              clear hk3w hk3
              go_wp2_with fail
              refine HKB.out.mono ?_
              rintro e w4 ⟨u4, rfl, hk4w, -, hk4⟩
              have HK4 := Lib.hid (Kp.trans HK3.out hk4)
              have hl4 : (keysL m ks).length ≤ 1000 := by have := keysL_len m ks; have := HL7.out; omega
              have HSM := Lib.hid (SameK_any (HW3.out.keep hk4) hk4w hl4 hl4)
              rw [show decide (keysL m ks = keysL m ks) = true from decide_eq_true rfl] at HSM
              obtain ⟨a4, c4, rfl, -, -, -⟩ := hk4w.open3
              clear hk4w hk4 hl4
              go_wp2_with fail
              refine HSM.out.mono ?_
              rintro e w5 ⟨rfl, hk5⟩
              have HK5 := Lib.hid (Kp.trans HKPZ.out (Kp.trans HK4.out hk5))
              clear hk5
              go_wp2_with fail
              go_roundw
              case rel => exact ⟨m + 1, by go_num, by omega, by omega, HK5.out⟩
              case measure => simp [intOf]; omega
            · have hmi : (3 : Int) < (m : Int) := by omega
              clear hm3
              go_wp2_with fail
              go_roundw
              case rel => exact ⟨n + 1, by go_num, by omega, by omega, HKZ.out⟩
              case measure => simp [intOf]; omega
        · have hni : (3 : Int) < (n : Int) := by omega
          have HAW := Lib.hid (awakeL_any HMY.out HCY.out)
          clear hn3
          go_wp2_with fail
          refine HAW.out.mono ?_
          rintro e w5 ⟨rfl, hk5⟩
          have HK5 := Lib.hid (Kp.trans HKP.out (Kp.trans HKY.out hk5))
          clear hk5
          go_wp2_with fail
          go_ret
          exact ⟨rfl, HK5.out⟩
end By
end Go.Proofs.YtpgnckjgclbepaaDoor
