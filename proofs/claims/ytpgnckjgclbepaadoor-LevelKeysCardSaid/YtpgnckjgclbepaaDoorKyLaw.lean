/- The law on which keys take the place of others. Conditions: a package variable of the library holds some integer, the table of levels lies as its text lays it. -/
import Derived.Test.YtpgnckjgclbepaaDoorKyT2
import Derived.Test.YtpgnckjgclbepaaDoorKyZ
namespace Go.Proofs.YtpgnckjgclbepaaDoor
namespace By
open Go.RowKit WireN LexN RevN KeyN
set_option linter.unusedVariables false
set_option linter.unusedSimpArgs false

theorem Kw.take {w : World} {ao : Option Addr} {n cap : Nat} {ks : List Ky} (h : Kw w (.slice ao n cap) ks) (m : Nat) (hm : m ≤ n) : Kw w (.slice ao m cap) (ks.take m) := by
  obtain ⟨⟨ao', cap', h1, h2, h3, h4, h5⟩, hl⟩ := h
  simp only [Value.slice.injEq] at h1
  obtain ⟨rfl, rfl, rfl⟩ := h1
  have hlen : (ks.take m).length = m := by rw [List.length_take]; omega
  refine ⟨⟨ao, cap, by rw [hlen], by rw [hlen]; omega, h3, ?_, h5⟩, fun x hx => hl x (List.mem_of_mem_take hx)⟩
  rcases h4 with rfl | ⟨b, off, rfl, hc⟩
  · exact .inl (by simp)
  · refine .inr ⟨b, off, rfl, fun j x hx => hc j x ?_⟩
    rw [List.getElem?_take] at hx
    split at hx
    · exact hx
    · cases hx
theorem bs_refl (S : ByteArray) : (S.toList == S.toList) = true := by simp
/-- The numbers that the law tries. -/
def tryN (a : Int) : List Int := [1, 2, 3, 0, 4, a]
theorem tryN_cell (a : Int) {j : Nat} {n : Int} (h : (tryN a)[j]? = some n) : (#[.int .i64 1, .int .i64 2, .int .i64 3, .int .i64 0, .int .i64 4, .int .i64 a] : Array Value)[j]? = some (.int .i64 n) := by
  have e : (#[.int .i64 1, .int .i64 2, .int .i64 3, .int .i64 0, .int .i64 4, .int .i64 a] : Array Value) = ((tryN a).map (Value.int .i64)).toArray := rfl
  rw [e, List.getElem?_toArray, List.getElem?_map, h]
  rfl
set_option maxRecDepth 100000 in
set_option maxHeartbeats 32000000 in
/-- The law where at most five keys are handed. -/
theorem keys5 {u v : Value} {xs : List Int} {ps : List Ky} {w : World} (hm : MX w) (hc : CO w) (hx : SlI w u xs) (hp : Kw w v ps) (h5 : ps.length ≤ 5) (a b : Int) :
    Calls Tryd.prog 3 #[u, v, .int .i64 a, .int .i64 b] w fun e w' => e = .returned (.bool true) ∧ Kp w w' := by
  obtain ⟨ao, cap, rfl, -, -, -⟩ := hx.ex
  obtain ⟨pa, pc, rfl, hpc, -, -⟩ := hp.open3
  obtain ⟨pn, hpn⟩ : ∃ pn, pn = ps.length := ⟨_, rfl⟩
  rw [← hpn] at hp h5 hpc ⊢
  have hpi : (pn : Int) ≤ 5 := by omega
  have hp5 : ps.length ≤ 5 := by omega
  have HPS := Lib.hid hp
  clear hp hpn hpc
  obtain ⟨g, hg⟩ : ∃ g, g = w.heap.size := ⟨_, rfl⟩
  obtain ⟨W1, hW1⟩ : ∃ W, W = w.alloc (.cells #[.slice ao xs.length cap, .int .i64 0] 26) := ⟨_, rfl⟩
  have HT : Hid (Tq w W1 g 100) := Lib.hid (by rw [hW1, hg]; exact Tq.new hx 100 (by omega))
  have HW1 := Lib.hid hW1; have HG := Lib.hid hg
  have HN := Lib.hid (Next_q (n := 99) HT.out 8 (by omega) (by omega))
  have HM := Lib.hid hm; have HC := Lib.hid hc
  obtain ⟨L, hL⟩ : ∃ L, L = xs.length := ⟨_, rfl⟩
  rw [← hL] at HW1 ⊢
  clear hg hW1 hm hc hx hL
  go_enter Tryd.func3, Tryd.ntmps3
  go_wp2_with fail
  rw [← HW1.out, ← HG.out]
  refine HN.out.mono ?_
  rintro e w1 ⟨⟨r, hr, rfl⟩, hq1, -⟩
  have HQ1 := Lib.hid hq1
  have hri : (r : Int) < 8 := by omega
  clear hq1
  go_wp2_with fail
  go_loopw [10, 11] (fun o i wr => ∃ (r : Nat) (vo : Value) (ks : List Ky), i = .int .i64 (r : Nat) ∧ o = vo ∧ ks.length + r ≤ 7 ∧ OwK w wr vo ks ∧ (∀ b, vo.ownBlock = some b → b ≠ g) ∧ Tq w wr g (3 * r + 3)) (fun _ i _ => (intOf i).toNat)
  case atStart => exact ⟨r, _, [], rfl, rfl, by simp; omega, (OwK.start w).keep HQ1.out.base, fun b hb => by simp [Value.ownBlock] at hb, HQ1.out.less (by omega)⟩
  case round =>
    obtain ⟨r, vo, ks, rfl, rfl, hlen, hown, hneg, hq⟩ := hrel
    rename World => wx
    have HOWN := Lib.hid hown; have HNEG := Lib.hid hneg; have HQ := Lib.hid hq
    obtain ⟨⟨oa, ol, oc, rfl⟩, -⟩ := row_frm hown.owns
    clear hown hneg hq
    by_cases hr0 : 0 < r
    · obtain ⟨r, rfl⟩ : ∃ s, r = s + 1 := ⟨r - 1, by omega⟩
      have hri : (0 : Int) < (r : Int) + 1 := by omega
      have HMK := Lib.hid (MKey_q (n := 3 * r + 3) (HQ.out.less (by omega)))
      clear hr0
      go_wp2_with fail
      refine HMK.out.mono ?_
      rintro e w2 ⟨⟨x, rfl, hxs, hxc⟩, hq2, hg2⟩
      have hgge : w.heap.size ≤ g := HQ.out.ge
      have HXS := Lib.hid hxs
      have HO2 := Lib.hid ((HOWN.out.gr hg2 hgge HNEG.out).keep (kp_alloc w2 (.cells #[.int .i64 x.1, .string (st x.2.1), .string (st x.2.2)] 29)))
      have HQ2 := Lib.hid (hq2.keep (kp_alloc w2 (.cells #[.int .i64 x.1, .string (st x.2.1), .string (st x.2.2)] 29)))
      have HBN := Lib.hid (Blk.new w2 29 #[.int .i64 x.1, .string (st x.2.1), .string (st x.2.2)])
      have hglt := hq2.lt
      obtain ⟨x1, x2, x3⟩ := x
      simp only [vK] at HO2 HQ2 HBN ⊢
      clear hxs hxc hq2 hg2
      go_wp2_with (at_builtin; refine wpList_ky (w := w) rfl (.tmp 38) (.tmp 41) rfl _ rfl HO2.out (by omega) (x1, x2, x3) HXS.out.ok w2.heap.size rfl HBN.out ?_)
      intro v' w3 ho3 hg3 ha3
      have HN3 : Hid (∀ b, v'.ownBlock = some b → b ≠ g) := Lib.hid (fun b hb => by
        rcases ha3 with e | e
        · rw [e] at hb; exact HNEG.out b hb
        · rw [e] at hb; injection hb with hb; rw [← hb]; simp; omega)
      have HQ3 : Hid (Tq w w3 g (3 * r + 3)) := Lib.hid (HQ2.out.by hg3 (fun k hk => ⟨((row_frm HO2.out.owns).2 k hk).1, fun e => HNEG.out k hk e.symm⟩))
      have HO3 := Lib.hid ho3
      obtain ⟨⟨va, vl, vc, rfl⟩, -⟩ := row_frm ho3.owns
      clear ho3 hg3 ha3
      go_wp2_with fail
      go_roundw
      case rel => exact ⟨r, _, _, by go_num, rfl, by simp; omega, HO3.out, HN3.out, HQ3.out⟩
      case measure => simp [intOf]
    · have hri0 : (r : Int) ≤ 0 := by omega
      have hdr : decide (0 < r) = false := decide_eq_false hr0
      have HCH := Lib.hid (Chance_q (n := 2) (HQ.out.less (by omega)) 1 4 (by omega) (by omega))
      have HGE : Hid (w.heap.size ≤ g) := Lib.hid HQ.out.ge
      have hl7 : ks.length ≤ 7 := by omega
      clear hlen hr0
      go_wp2_with fail
      refine HCH.out.mono ?_
      rintro e w2 ⟨⟨bb, rfl⟩, -, hg2⟩
      have HO2 := Lib.hid (HOWN.out.gr hg2 HGE.out HNEG.out)
      clear hg2
      cases bb with
      | true =>
        go_wp2_with (at_builtin; refine wpList_ks (w := w) rfl (.tmp 45) (.tmp 46) rfl _ _ rfl HO2.out rfl (HPS.out.keep HO2.out.kp) (by omega) ?_)
        intro vz wz hoz _ _ _
        obtain ⟨kz, hkz⟩ : ∃ kz, kz = ks ++ ps := ⟨_, rfl⟩
        rw [← hkz] at hoz
        have hl12 : kz.length ≤ 12 := by rw [hkz, List.length_append]; omega
        have HOZ := Lib.hid hoz
        clear hoz hkz
        have HL12 := Lib.hid hl12
        obtain ⟨⟨za, zl, zc, rfl⟩, -⟩ := row_frm HOZ.out.owns
        have HIB := Lib.hid (Blk.new wz 3 #[.int .i64 1, .int .i64 2, .int .i64 3, .int .i64 0, .int .i64 4, .int .i64 a])
        have HKI := Lib.hid (kp_alloc wz (.cells #[.int .i64 1, .int .i64 2, .int .i64 3, .int .i64 0, .int .i64 4, .int .i64 a] 3))
        obtain ⟨ib, hib⟩ : ∃ ib, ib = wz.heap.size := ⟨_, rfl⟩
        have HNB : Hid (∀ k, (Value.slice za zl zc).ownBlock = some k → k ≠ ib) := Lib.hid (fun k hk e => by have := ((row_frm HOZ.out.owns).2 k hk).2; omega)
        rw [← hib] at HIB
        have HI := Lib.hid hib
        clear hib
        go_wp2_with fail
        rw [← HI.out]
        go_loopw [51] (fun s wr => ∃ j : Nat, s = .int .i64 (j : Nat) ∧ j ≤ 6 ∧ OwK w wr (.slice za zl zc) kz ∧ Blk wr ib 3 #[.int .i64 1, .int .i64 2, .int .i64 3, .int .i64 0, .int .i64 4, .int .i64 a]) (fun s _ => 6 - (intOf s).toNat)
        case atStart => exact ⟨0, rfl, by omega, HOZ.out.keep HKI.out, HIB.out⟩
        case round =>
          obtain ⟨j, rfl, hj6, ho, hbi⟩ := hrel
          rename World => wy
          have HO := Lib.hid ho
          have HBI := Lib.hid hbi
          have HMY := Lib.hid (HM.out.keep ho.kp); have HCY := Lib.hid (HC.out.keep ho.kp)
          by_cases hj : j < 6
          · obtain ⟨n, hn⟩ : ∃ n, (tryN a)[j]? = some n := ⟨_, List.getElem?_eq_getElem (by unfold tryN; simpa using hj)⟩
            have cj := hbi.cell j (tryN_cell a hn)
            have j1 : (j : Int) < 6 := by omega
            have HK1 := Lib.hid (Keys_any n ho.kw hl12 HMY.out HCY.out)
            clear ho hbi hn
            go_wp2_with fail
            refine HK1.out.mono ?_
            rintro e w3 ⟨u3, rfl, hu3, -, hk3⟩
            have HU3 := Lib.hid hu3; have HK3 := Lib.hid hk3
            obtain ⟨ua, uc, rfl, -, -, -⟩ := hu3.open3
            have HK2 := Lib.hid (rKeys_any n ((HO.out.keep hk3).kw) (by omega))
            clear hu3 hk3 cj
            go_wp2_with fail
            refine HK2.out.mono ?_
            rintro e w4 ⟨u4, rfl, hu4, hk4⟩
            have HU4 := Lib.hid hu4; have HK4 := Lib.hid (Kp.trans HK3.out hk4)
            have hlk : (keysL n kz).length ≤ 1000 := by have := keysL_len n kz; omega
            have HSM := Lib.hid (SameK_any (HU3.out.keep hk4) hu4 hlk hlk)
            rw [show decide (keysL n kz = keysL n kz) = true from decide_eq_true rfl] at HSM
            obtain ⟨va, vc, rfl, -, -, -⟩ := hu4.open3
            clear hu4 hk4 hlk
            go_wp2_with fail
            refine HSM.out.mono ?_
            rintro e w5 ⟨rfl, hk5⟩
            have HK5 := Lib.hid (Kp.trans HK4.out hk5)
            have HCC := Lib.hid (HCY.out.keep HK5.out)
            have HF1 := Lib.hid (Finer_any n b HCC.out)
            have HF2 := Lib.hid (rFiner_any n b w5)
            have HF3 := Lib.hid (Finer_any n 2 HCC.out)
            have HF4 := Lib.hid (rFiner_any n 2 w5)
            obtain ⟨D1, hD1⟩ : ∃ D, D = decide (1 ≤ n ∧ b ≤ 3 ∧ n < b) := ⟨_, rfl⟩
            obtain ⟨D2, hD2⟩ : ∃ D, D = decide (1 ≤ n ∧ (2 : Int) ≤ 3 ∧ n < 2) := ⟨_, rfl⟩
            rw [← hD1] at HF1 HF2
            rw [← hD2] at HF3 HF4
            clear hk5 hD1 hD2
            go_wp2_with fail
            refine HF1.out.mono ?_
            rintro e w6 ⟨rfl, rfl⟩
            go_wp2_with fail
            refine HF2.out.mono ?_
            rintro e w6 ⟨rfl, rfl⟩
            go_wp2_with fail
            refine HF3.out.mono ?_
            rintro e w6 ⟨rfl, rfl⟩
            go_wp2_with fail
            refine HF4.out.mono ?_
            rintro e w6 ⟨rfl, rfl⟩
            have HO6 := Lib.hid (HO.out.keep HK5.out)
            have HB6 := Lib.hid (HBI.out.keep HK5.out)
            go_wp2_with (at_builtin; refine wpList_ks (w := w) rfl (.tmp 92) (.tmp 93) rfl _ _ rfl HO6.out rfl (HPS.out.keep HO6.out.kp) (by omega) ?_)
            intro v7 w7 ho7 ho7o hg7 _
            have HO7o := Lib.hid ho7o
            have HB7 := Lib.hid (HB6.out.by hg7 (fun e => HNB.out _ e.symm rfl))
            obtain ⟨qa, qc, rfl, hqc, -, -⟩ := ho7.kw.open3
            obtain ⟨qs, hqs⟩ : ∃ qs, qs = kz ++ ps := ⟨_, rfl⟩
            rw [← hqs] at ho7 hqc ⊢
            obtain ⟨M, hM⟩ : ∃ M, M = qs.length := ⟨_, rfl⟩
            have hM17 : M ≤ 17 := by rw [hM, hqs, List.length_append]; omega
            rw [← hM] at ho7 hqc ⊢
            have HO7 := Lib.hid ho7
            have HMM := Lib.hid hM
            have m1 : (M : Int) ≤ (qc : Int) := by omega
            have m2 : (M : Int) ≤ 17 := by omega
            clear ho7 ho7o hg7 hqs hM hqc
            go_wp2_with fail
            go_loopw [96] (fun s wr => ∃ i : Nat, s = .int .i64 (i : Nat) ∧ i ≤ M ∧ Kp w7 wr) (fun s _ => M - (intOf s).toNat)
            case atStart => exact ⟨0, rfl, Nat.zero_le _, Kp.refl _⟩
            case round =>
              obtain ⟨i, rfl, hiM, hkp⟩ := hrel
              rename World => wv
              have HKP := Lib.hid hkp
              by_cases hi : i < M
              · obtain ⟨x, hx⟩ : ∃ x, qs[i]? = some x := ⟨_, List.getElem?_eq_getElem (by have := HMM.out; omega)⟩
                have hxo : KyOk x := HO7.out.ok x (List.mem_of_getElem? hx)
                obtain ⟨cb, off, rfl, hcell⟩ := ((HO7.out.keep hkp).kw).cell (by omega)
                obtain ⟨c0, c1, c2⟩ := hcell i x hx
                have i1 : (i : Int) < (M : Int) := by omega
                have HB1 := Lib.hid (Blk.new wv 29 #[.int .i64 x.1, .string (st x.2.1), .string (st x.2.2)])
                have HKA := Lib.hid (kp_alloc wv (.cells #[.int .i64 x.1, .string (st x.2.1), .string (st x.2.2)] 29))
                have HKW := Lib.hid (Kp.trans HO7.out.kp (Kp.trans hkp HKA.out))
                have HP1 := Lib.hid (Key_any hxo n (HM.out.keep HKW.out) (HC.out.keep HKW.out))
                have HP2 := Lib.hid (fun W => rKey_any hxo n W)
                obtain ⟨R, hR⟩ : ∃ R, R = keyR n x := ⟨_, rfl⟩
                obtain ⟨E, hE⟩ : ∃ E, E = keyE n x := ⟨_, rfl⟩
                rw [← hR, ← hE] at HP1
                rw [← hR, ← hE] at HP2
                obtain ⟨x1, x2, x3⟩ := x
                obtain ⟨y1, y2, y3⟩ := R
                simp only [vK] at HB1 HKA HP1 HP2 c0 c1 c2
                obtain ⟨T2, hT2⟩ : ∃ S, S = st y2 := ⟨_, rfl⟩
                obtain ⟨T3, hT3⟩ : ∃ S, S = st y3 := ⟨_, rfl⟩
                rw [← hT2, ← hT3] at HP1
                rw [← hT2, ← hT3] at HP2
                have r2 := bs_refl T2
                have r3 := bs_refl T3
                clear hx hxo hcell hR hE hT2 hT3 hkp
                go_wp2_with fail
                refine HP1.out.mono ?_
                rintro e w8 ⟨rfl, hk8⟩
                have HK8 := Lib.hid (Kp.trans HKA.out hk8)
                have b8 := (HB1.out.keep hk8).keep (kp_alloc w8 (.cells #[.int .i64 y1, .string T2, .string T3] 29))
                have d0 := b8.cell 0 rfl; have d1 := b8.cell 1 rfl; have d2 := b8.cell 2 rfl
                have HB8 := Lib.hid (Blk.new w8 29 #[.int .i64 y1, .string T2, .string T3])
                have HKB := Lib.hid (kp_alloc w8 (.cells #[.int .i64 y1, .string T2, .string T3] 29))
                clear hk8 b8 c0 c1 c2
                go_wp2_with fail
                refine (HP2.out _).mono ?_
                rintro e w9 ⟨rfl, hk9⟩
                have b9 := (HB8.out.keep hk9).keep (kp_alloc w9 (.cells #[.int .i64 y1, .string T2, .string T3] 29))
                have g0 := b9.cell 0 rfl; have g1 := b9.cell 1 rfl; have g2 := b9.cell 2 rfl
                have HK9 := Lib.hid (Kp.trans HKP.out (Kp.trans HK8.out (Kp.trans HKB.out (Kp.trans hk9 (kp_alloc w9 (.cells #[.int .i64 y1, .string T2, .string T3] 29))))))
                clear hk9 b9 d0 d1 d2
                go_wp2_with fail
                go_roundw
                case rel => exact ⟨i + 1, by go_num, by omega, HK9.out⟩
                case measure => simp [intOf]; omega
              · have i1 : (M : Int) ≤ (i : Int) := by omega
                clear hi hkp
                go_wp2_with fail
                go_roundw
                case rel => exact ⟨j + 1, by go_num, by omega, HO7o.out.keep HKP.out, HB7.out.keep HKP.out⟩
                case measure => simp [intOf]; omega
          · have j1 : (6 : Int) ≤ (j : Int) := by omega
            have HAW := Lib.hid (awakeL_any HMY.out HCY.out)
            clear ho hbi hj
            go_wp2_with fail
            refine HAW.out.mono ?_
            rintro e w5 ⟨rfl, hk5⟩
            have HK5 := Lib.hid (Kp.trans HO.out.kp hk5)
            clear hk5
            go_wp2_with fail
            go_ret
            exact ⟨rfl, HK5.out⟩
      | false =>
        obtain ⟨vz, hvz⟩ : ∃ v, v = Value.slice oa ol oc := ⟨_, rfl⟩
        obtain ⟨kz, hkz⟩ : ∃ kz, kz = ks := ⟨_, rfl⟩
        obtain ⟨wz, hwz⟩ : ∃ W, W = w2 := ⟨_, rfl⟩
        have hl12 : kz.length ≤ 12 := by rw [hkz]; omega
        have HOZ : Hid (OwK w wz vz kz) := Lib.hid (by rw [hvz, hkz, hwz]; exact HO2.out)
        rw [← hvz, ← hwz]
        clear hkz hvz hwz
        have HL12 := Lib.hid hl12
        obtain ⟨⟨za, zl, zc, rfl⟩, -⟩ := row_frm HOZ.out.owns
        have HIB := Lib.hid (Blk.new wz 3 #[.int .i64 1, .int .i64 2, .int .i64 3, .int .i64 0, .int .i64 4, .int .i64 a])
        have HKI := Lib.hid (kp_alloc wz (.cells #[.int .i64 1, .int .i64 2, .int .i64 3, .int .i64 0, .int .i64 4, .int .i64 a] 3))
        obtain ⟨ib, hib⟩ : ∃ ib, ib = wz.heap.size := ⟨_, rfl⟩
        have HNB : Hid (∀ k, (Value.slice za zl zc).ownBlock = some k → k ≠ ib) := Lib.hid (fun k hk e => by have := ((row_frm HOZ.out.owns).2 k hk).2; omega)
        rw [← hib] at HIB
        have HI := Lib.hid hib
        clear hib
        go_wp2_with fail
        rw [← HI.out]
        go_loopw [51] (fun s wr => ∃ j : Nat, s = .int .i64 (j : Nat) ∧ j ≤ 6 ∧ OwK w wr (.slice za zl zc) kz ∧ Blk wr ib 3 #[.int .i64 1, .int .i64 2, .int .i64 3, .int .i64 0, .int .i64 4, .int .i64 a]) (fun s _ => 6 - (intOf s).toNat)
        case atStart => exact ⟨0, rfl, by omega, HOZ.out.keep HKI.out, HIB.out⟩
        case round =>
          obtain ⟨j, rfl, hj6, ho, hbi⟩ := hrel
          rename World => wy
          have HO := Lib.hid ho
          have HBI := Lib.hid hbi
          have HMY := Lib.hid (HM.out.keep ho.kp); have HCY := Lib.hid (HC.out.keep ho.kp)
          by_cases hj : j < 6
          · obtain ⟨n, hn⟩ : ∃ n, (tryN a)[j]? = some n := ⟨_, List.getElem?_eq_getElem (by unfold tryN; simpa using hj)⟩
            have cj := hbi.cell j (tryN_cell a hn)
            have j1 : (j : Int) < 6 := by omega
            have HK1 := Lib.hid (Keys_any n ho.kw hl12 HMY.out HCY.out)
            clear ho hbi hn
            go_wp2_with fail
            refine HK1.out.mono ?_
            rintro e w3 ⟨u3, rfl, hu3, -, hk3⟩
            have HU3 := Lib.hid hu3; have HK3 := Lib.hid hk3
            obtain ⟨ua, uc, rfl, -, -, -⟩ := hu3.open3
            have HK2 := Lib.hid (rKeys_any n ((HO.out.keep hk3).kw) (by omega))
            clear hu3 hk3 cj
            go_wp2_with fail
            refine HK2.out.mono ?_
            rintro e w4 ⟨u4, rfl, hu4, hk4⟩
            have HU4 := Lib.hid hu4; have HK4 := Lib.hid (Kp.trans HK3.out hk4)
            have hlk : (keysL n kz).length ≤ 1000 := by have := keysL_len n kz; omega
            have HSM := Lib.hid (SameK_any (HU3.out.keep hk4) hu4 hlk hlk)
            rw [show decide (keysL n kz = keysL n kz) = true from decide_eq_true rfl] at HSM
            obtain ⟨va, vc, rfl, -, -, -⟩ := hu4.open3
            clear hu4 hk4 hlk
            go_wp2_with fail
            refine HSM.out.mono ?_
            rintro e w5 ⟨rfl, hk5⟩
            have HK5 := Lib.hid (Kp.trans HK4.out hk5)
            have HCC := Lib.hid (HCY.out.keep HK5.out)
            have HF1 := Lib.hid (Finer_any n b HCC.out)
            have HF2 := Lib.hid (rFiner_any n b w5)
            have HF3 := Lib.hid (Finer_any n 2 HCC.out)
            have HF4 := Lib.hid (rFiner_any n 2 w5)
            obtain ⟨D1, hD1⟩ : ∃ D, D = decide (1 ≤ n ∧ b ≤ 3 ∧ n < b) := ⟨_, rfl⟩
            obtain ⟨D2, hD2⟩ : ∃ D, D = decide (1 ≤ n ∧ (2 : Int) ≤ 3 ∧ n < 2) := ⟨_, rfl⟩
            rw [← hD1] at HF1 HF2
            rw [← hD2] at HF3 HF4
            clear hk5 hD1 hD2
            go_wp2_with fail
            refine HF1.out.mono ?_
            rintro e w6 ⟨rfl, rfl⟩
            go_wp2_with fail
            refine HF2.out.mono ?_
            rintro e w6 ⟨rfl, rfl⟩
            go_wp2_with fail
            refine HF3.out.mono ?_
            rintro e w6 ⟨rfl, rfl⟩
            go_wp2_with fail
            refine HF4.out.mono ?_
            rintro e w6 ⟨rfl, rfl⟩
            have HO6 := Lib.hid (HO.out.keep HK5.out)
            have HB6 := Lib.hid (HBI.out.keep HK5.out)
            go_wp2_with (at_builtin; refine wpList_ks (w := w) rfl (.tmp 92) (.tmp 93) rfl _ _ rfl HO6.out rfl (HPS.out.keep HO6.out.kp) (by omega) ?_)
            intro v7 w7 ho7 ho7o hg7 _
            have HO7o := Lib.hid ho7o
            have HB7 := Lib.hid (HB6.out.by hg7 (fun e => HNB.out _ e.symm rfl))
            obtain ⟨qa, qc, rfl, hqc, -, -⟩ := ho7.kw.open3
            obtain ⟨qs, hqs⟩ : ∃ qs, qs = kz ++ ps := ⟨_, rfl⟩
            rw [← hqs] at ho7 hqc ⊢
            obtain ⟨M, hM⟩ : ∃ M, M = qs.length := ⟨_, rfl⟩
            have hM17 : M ≤ 17 := by rw [hM, hqs, List.length_append]; omega
            rw [← hM] at ho7 hqc ⊢
            have HO7 := Lib.hid ho7
            have HMM := Lib.hid hM
            have m1 : (M : Int) ≤ (qc : Int) := by omega
            have m2 : (M : Int) ≤ 17 := by omega
            clear ho7 ho7o hg7 hqs hM hqc
            go_wp2_with fail
            go_loopw [96] (fun s wr => ∃ i : Nat, s = .int .i64 (i : Nat) ∧ i ≤ M ∧ Kp w7 wr) (fun s _ => M - (intOf s).toNat)
            case atStart => exact ⟨0, rfl, Nat.zero_le _, Kp.refl _⟩
            case round =>
              obtain ⟨i, rfl, hiM, hkp⟩ := hrel
              rename World => wv
              have HKP := Lib.hid hkp
              by_cases hi : i < M
              · obtain ⟨x, hx⟩ : ∃ x, qs[i]? = some x := ⟨_, List.getElem?_eq_getElem (by have := HMM.out; omega)⟩
                have hxo : KyOk x := HO7.out.ok x (List.mem_of_getElem? hx)
                obtain ⟨cb, off, rfl, hcell⟩ := ((HO7.out.keep hkp).kw).cell (by omega)
                obtain ⟨c0, c1, c2⟩ := hcell i x hx
                have i1 : (i : Int) < (M : Int) := by omega
                have HB1 := Lib.hid (Blk.new wv 29 #[.int .i64 x.1, .string (st x.2.1), .string (st x.2.2)])
                have HKA := Lib.hid (kp_alloc wv (.cells #[.int .i64 x.1, .string (st x.2.1), .string (st x.2.2)] 29))
                have HKW := Lib.hid (Kp.trans HO7.out.kp (Kp.trans hkp HKA.out))
                have HP1 := Lib.hid (Key_any hxo n (HM.out.keep HKW.out) (HC.out.keep HKW.out))
                have HP2 := Lib.hid (fun W => rKey_any hxo n W)
                obtain ⟨R, hR⟩ : ∃ R, R = keyR n x := ⟨_, rfl⟩
                obtain ⟨E, hE⟩ : ∃ E, E = keyE n x := ⟨_, rfl⟩
                rw [← hR, ← hE] at HP1
                rw [← hR, ← hE] at HP2
                obtain ⟨x1, x2, x3⟩ := x
                obtain ⟨y1, y2, y3⟩ := R
                simp only [vK] at HB1 HKA HP1 HP2 c0 c1 c2
                obtain ⟨T2, hT2⟩ : ∃ S, S = st y2 := ⟨_, rfl⟩
                obtain ⟨T3, hT3⟩ : ∃ S, S = st y3 := ⟨_, rfl⟩
                rw [← hT2, ← hT3] at HP1
                rw [← hT2, ← hT3] at HP2
                have r2 := bs_refl T2
                have r3 := bs_refl T3
                clear hx hxo hcell hR hE hT2 hT3 hkp
                go_wp2_with fail
                refine HP1.out.mono ?_
                rintro e w8 ⟨rfl, hk8⟩
                have HK8 := Lib.hid (Kp.trans HKA.out hk8)
                have b8 := (HB1.out.keep hk8).keep (kp_alloc w8 (.cells #[.int .i64 y1, .string T2, .string T3] 29))
                have d0 := b8.cell 0 rfl; have d1 := b8.cell 1 rfl; have d2 := b8.cell 2 rfl
                have HB8 := Lib.hid (Blk.new w8 29 #[.int .i64 y1, .string T2, .string T3])
                have HKB := Lib.hid (kp_alloc w8 (.cells #[.int .i64 y1, .string T2, .string T3] 29))
                clear hk8 b8 c0 c1 c2
                go_wp2_with fail
                refine (HP2.out _).mono ?_
                rintro e w9 ⟨rfl, hk9⟩
                have b9 := (HB8.out.keep hk9).keep (kp_alloc w9 (.cells #[.int .i64 y1, .string T2, .string T3] 29))
                have g0 := b9.cell 0 rfl; have g1 := b9.cell 1 rfl; have g2 := b9.cell 2 rfl
                have HK9 := Lib.hid (Kp.trans HKP.out (Kp.trans HK8.out (Kp.trans HKB.out (Kp.trans hk9 (kp_alloc w9 (.cells #[.int .i64 y1, .string T2, .string T3] 29))))))
                clear hk9 b9 d0 d1 d2
                go_wp2_with fail
                go_roundw
                case rel => exact ⟨i + 1, by go_num, by omega, HK9.out⟩
                case measure => simp [intOf]; omega
              · have i1 : (M : Int) ≤ (i : Int) := by omega
                clear hi hkp
                go_wp2_with fail
                go_roundw
                case rel => exact ⟨j + 1, by go_num, by omega, HO7o.out.keep HKP.out, HB7.out.keep HKP.out⟩
                case measure => simp [intOf]; omega
          · have j1 : (6 : Int) ≤ (j : Int) := by omega
            have HAW := Lib.hid (awakeL_any HMY.out HCY.out)
            clear ho hbi hj
            go_wp2_with fail
            refine HAW.out.mono ?_
            rintro e w5 ⟨rfl, hk5⟩
            have HK5 := Lib.hid (Kp.trans HO.out.kp hk5)
            clear hk5
            go_wp2_with fail
            go_ret
            exact ⟨rfl, HK5.out⟩
set_option maxRecDepth 100000 in
set_option maxHeartbeats 32000000 in
/-- The law where more keys are handed: the first five count. -/
theorem keys6 {u v : Value} {xs : List Int} {rs : List Ky} {w : World} (hm : MX w) (hc : CO w) (hx : SlI w u xs) (hp : Kw w v rs) (h5 : 5 < rs.length) (a b : Int) :
    Calls Tryd.prog 3 #[u, v, .int .i64 a, .int .i64 b] w fun e w' => e = .returned (.bool true) ∧ Kp w w' := by
  obtain ⟨ao, cap, rfl, -, -, -⟩ := hx.ex
  obtain ⟨pa, pc, rfl, hpc, hpm, -⟩ := hp.open3
  obtain ⟨ps, hps⟩ : ∃ ps, ps = rs.take 5 := ⟨_, rfl⟩
  have HPS : Hid (Kw w (.slice pa 5 pc) ps) := Lib.hid (by rw [hps]; exact hp.take 5 (by omega))
  have hp5 : ps.length ≤ 5 := by rw [hps, List.length_take]; omega
  obtain ⟨pn, hpn⟩ : ∃ pn, pn = rs.length := ⟨_, rfl⟩
  rw [← hpn] at h5 hpc ⊢
  have hpi : (5 : Int) < (pn : Int) := by omega
  have hpj : (5 : Int) ≤ (pc : Int) := by omega
  have hpk : (pn : Int) ≤ (pc : Int) := by omega
  clear hp hpn hpc hps hpm
  obtain ⟨g, hg⟩ : ∃ g, g = w.heap.size := ⟨_, rfl⟩
  obtain ⟨W1, hW1⟩ : ∃ W, W = w.alloc (.cells #[.slice ao xs.length cap, .int .i64 0] 26) := ⟨_, rfl⟩
  have HT : Hid (Tq w W1 g 100) := Lib.hid (by rw [hW1, hg]; exact Tq.new hx 100 (by omega))
  have HW1 := Lib.hid hW1; have HG := Lib.hid hg
  have HN := Lib.hid (Next_q (n := 99) HT.out 8 (by omega) (by omega))
  have HM := Lib.hid hm; have HC := Lib.hid hc
  obtain ⟨L, hL⟩ : ∃ L, L = xs.length := ⟨_, rfl⟩
  rw [← hL] at HW1 ⊢
  clear hg hW1 hm hc hx hL
  go_enter Tryd.func3, Tryd.ntmps3
  go_wp2_with fail
  rw [← HW1.out, ← HG.out]
  refine HN.out.mono ?_
  rintro e w1 ⟨⟨r, hr, rfl⟩, hq1, -⟩
  have HQ1 := Lib.hid hq1
  have hri : (r : Int) < 8 := by omega
  clear hq1
  go_wp2_with fail
  go_loopw [10, 11] (fun o i wr => ∃ (r : Nat) (vo : Value) (ks : List Ky), i = .int .i64 (r : Nat) ∧ o = vo ∧ ks.length + r ≤ 7 ∧ OwK w wr vo ks ∧ (∀ b, vo.ownBlock = some b → b ≠ g) ∧ Tq w wr g (3 * r + 3)) (fun _ i _ => (intOf i).toNat)
  case atStart => exact ⟨r, _, [], rfl, rfl, by simp; omega, (OwK.start w).keep HQ1.out.base, fun b hb => by simp [Value.ownBlock] at hb, HQ1.out.less (by omega)⟩
  case round =>
    obtain ⟨r, vo, ks, rfl, rfl, hlen, hown, hneg, hq⟩ := hrel
    rename World => wx
    have HOWN := Lib.hid hown; have HNEG := Lib.hid hneg; have HQ := Lib.hid hq
    obtain ⟨⟨oa, ol, oc, rfl⟩, -⟩ := row_frm hown.owns
    clear hown hneg hq
    by_cases hr0 : 0 < r
    · obtain ⟨r, rfl⟩ : ∃ s, r = s + 1 := ⟨r - 1, by omega⟩
      have hri : (0 : Int) < (r : Int) + 1 := by omega
      have HMK := Lib.hid (MKey_q (n := 3 * r + 3) (HQ.out.less (by omega)))
      clear hr0
      go_wp2_with fail
      refine HMK.out.mono ?_
      rintro e w2 ⟨⟨x, rfl, hxs, hxc⟩, hq2, hg2⟩
      have hgge : w.heap.size ≤ g := HQ.out.ge
      have HXS := Lib.hid hxs
      have HO2 := Lib.hid ((HOWN.out.gr hg2 hgge HNEG.out).keep (kp_alloc w2 (.cells #[.int .i64 x.1, .string (st x.2.1), .string (st x.2.2)] 29)))
      have HQ2 := Lib.hid (hq2.keep (kp_alloc w2 (.cells #[.int .i64 x.1, .string (st x.2.1), .string (st x.2.2)] 29)))
      have HBN := Lib.hid (Blk.new w2 29 #[.int .i64 x.1, .string (st x.2.1), .string (st x.2.2)])
      have hglt := hq2.lt
      obtain ⟨x1, x2, x3⟩ := x
      simp only [vK] at HO2 HQ2 HBN ⊢
      clear hxs hxc hq2 hg2
      go_wp2_with (at_builtin; refine wpList_ky (w := w) rfl (.tmp 38) (.tmp 41) rfl _ rfl HO2.out (by omega) (x1, x2, x3) HXS.out.ok w2.heap.size rfl HBN.out ?_)
      intro v' w3 ho3 hg3 ha3
      have HN3 : Hid (∀ b, v'.ownBlock = some b → b ≠ g) := Lib.hid (fun b hb => by
        rcases ha3 with e | e
        · rw [e] at hb; exact HNEG.out b hb
        · rw [e] at hb; injection hb with hb; rw [← hb]; simp; omega)
      have HQ3 : Hid (Tq w w3 g (3 * r + 3)) := Lib.hid (HQ2.out.by hg3 (fun k hk => ⟨((row_frm HO2.out.owns).2 k hk).1, fun e => HNEG.out k hk e.symm⟩))
      have HO3 := Lib.hid ho3
      obtain ⟨⟨va, vl, vc, rfl⟩, -⟩ := row_frm ho3.owns
      clear ho3 hg3 ha3
      go_wp2_with fail
      go_roundw
      case rel => exact ⟨r, _, _, by go_num, rfl, by simp; omega, HO3.out, HN3.out, HQ3.out⟩
      case measure => simp [intOf]
    · have hri0 : (r : Int) ≤ 0 := by omega
      have hdr : decide (0 < r) = false := decide_eq_false hr0
      have HCH := Lib.hid (Chance_q (n := 2) (HQ.out.less (by omega)) 1 4 (by omega) (by omega))
      have HGE : Hid (w.heap.size ≤ g) := Lib.hid HQ.out.ge
      have hl7 : ks.length ≤ 7 := by omega
      clear hlen hr0
      go_wp2_with fail
      refine HCH.out.mono ?_
      rintro e w2 ⟨⟨bb, rfl⟩, -, hg2⟩
      have HO2 := Lib.hid (HOWN.out.gr hg2 HGE.out HNEG.out)
      clear hg2
      cases bb with
      | true =>
        go_wp2_with (at_builtin; refine wpList_ks (w := w) rfl (.tmp 45) (.tmp 46) rfl _ _ rfl HO2.out rfl (HPS.out.keep HO2.out.kp) (by omega) ?_)
        intro vz wz hoz _ _ _
        obtain ⟨kz, hkz⟩ : ∃ kz, kz = ks ++ ps := ⟨_, rfl⟩
        rw [← hkz] at hoz
        have hl12 : kz.length ≤ 12 := by rw [hkz, List.length_append]; omega
        have HOZ := Lib.hid hoz
        clear hoz hkz
        have HL12 := Lib.hid hl12
        obtain ⟨⟨za, zl, zc, rfl⟩, -⟩ := row_frm HOZ.out.owns
        have HIB := Lib.hid (Blk.new wz 3 #[.int .i64 1, .int .i64 2, .int .i64 3, .int .i64 0, .int .i64 4, .int .i64 a])
        have HKI := Lib.hid (kp_alloc wz (.cells #[.int .i64 1, .int .i64 2, .int .i64 3, .int .i64 0, .int .i64 4, .int .i64 a] 3))
        obtain ⟨ib, hib⟩ : ∃ ib, ib = wz.heap.size := ⟨_, rfl⟩
        have HNB : Hid (∀ k, (Value.slice za zl zc).ownBlock = some k → k ≠ ib) := Lib.hid (fun k hk e => by have := ((row_frm HOZ.out.owns).2 k hk).2; omega)
        rw [← hib] at HIB
        have HI := Lib.hid hib
        clear hib
        go_wp2_with fail
        rw [← HI.out]
        go_loopw [51] (fun s wr => ∃ j : Nat, s = .int .i64 (j : Nat) ∧ j ≤ 6 ∧ OwK w wr (.slice za zl zc) kz ∧ Blk wr ib 3 #[.int .i64 1, .int .i64 2, .int .i64 3, .int .i64 0, .int .i64 4, .int .i64 a]) (fun s _ => 6 - (intOf s).toNat)
        case atStart => exact ⟨0, rfl, by omega, HOZ.out.keep HKI.out, HIB.out⟩
        case round =>
          obtain ⟨j, rfl, hj6, ho, hbi⟩ := hrel
          rename World => wy
          have HO := Lib.hid ho
          have HBI := Lib.hid hbi
          have HMY := Lib.hid (HM.out.keep ho.kp); have HCY := Lib.hid (HC.out.keep ho.kp)
          by_cases hj : j < 6
          · obtain ⟨n, hn⟩ : ∃ n, (tryN a)[j]? = some n := ⟨_, List.getElem?_eq_getElem (by unfold tryN; simpa using hj)⟩
            have cj := hbi.cell j (tryN_cell a hn)
            have j1 : (j : Int) < 6 := by omega
            have HK1 := Lib.hid (Keys_any n ho.kw hl12 HMY.out HCY.out)
            clear ho hbi hn
            go_wp2_with fail
            refine HK1.out.mono ?_
            rintro e w3 ⟨u3, rfl, hu3, -, hk3⟩
            have HU3 := Lib.hid hu3; have HK3 := Lib.hid hk3
            obtain ⟨ua, uc, rfl, -, -, -⟩ := hu3.open3
            have HK2 := Lib.hid (rKeys_any n ((HO.out.keep hk3).kw) (by omega))
            clear hu3 hk3 cj
            go_wp2_with fail
            refine HK2.out.mono ?_
            rintro e w4 ⟨u4, rfl, hu4, hk4⟩
            have HU4 := Lib.hid hu4; have HK4 := Lib.hid (Kp.trans HK3.out hk4)
            have hlk : (keysL n kz).length ≤ 1000 := by have := keysL_len n kz; omega
            have HSM := Lib.hid (SameK_any (HU3.out.keep hk4) hu4 hlk hlk)
            rw [show decide (keysL n kz = keysL n kz) = true from decide_eq_true rfl] at HSM
            obtain ⟨va, vc, rfl, -, -, -⟩ := hu4.open3
            clear hu4 hk4 hlk
            go_wp2_with fail
            refine HSM.out.mono ?_
            rintro e w5 ⟨rfl, hk5⟩
            have HK5 := Lib.hid (Kp.trans HK4.out hk5)
            have HCC := Lib.hid (HCY.out.keep HK5.out)
            have HF1 := Lib.hid (Finer_any n b HCC.out)
            have HF2 := Lib.hid (rFiner_any n b w5)
            have HF3 := Lib.hid (Finer_any n 2 HCC.out)
            have HF4 := Lib.hid (rFiner_any n 2 w5)
            obtain ⟨D1, hD1⟩ : ∃ D, D = decide (1 ≤ n ∧ b ≤ 3 ∧ n < b) := ⟨_, rfl⟩
            obtain ⟨D2, hD2⟩ : ∃ D, D = decide (1 ≤ n ∧ (2 : Int) ≤ 3 ∧ n < 2) := ⟨_, rfl⟩
            rw [← hD1] at HF1 HF2
            rw [← hD2] at HF3 HF4
            clear hk5 hD1 hD2
            go_wp2_with fail
            refine HF1.out.mono ?_
            rintro e w6 ⟨rfl, rfl⟩
            go_wp2_with fail
            refine HF2.out.mono ?_
            rintro e w6 ⟨rfl, rfl⟩
            go_wp2_with fail
            refine HF3.out.mono ?_
            rintro e w6 ⟨rfl, rfl⟩
            go_wp2_with fail
            refine HF4.out.mono ?_
            rintro e w6 ⟨rfl, rfl⟩
            have HO6 := Lib.hid (HO.out.keep HK5.out)
            have HB6 := Lib.hid (HBI.out.keep HK5.out)
            go_wp2_with (at_builtin; refine wpList_ks (w := w) rfl (.tmp 92) (.tmp 93) rfl _ _ rfl HO6.out rfl (HPS.out.keep HO6.out.kp) (by omega) ?_)
            intro v7 w7 ho7 ho7o hg7 _
            have HO7o := Lib.hid ho7o
            have HB7 := Lib.hid (HB6.out.by hg7 (fun e => HNB.out _ e.symm rfl))
            obtain ⟨qa, qc, rfl, hqc, -, -⟩ := ho7.kw.open3
            obtain ⟨qs, hqs⟩ : ∃ qs, qs = kz ++ ps := ⟨_, rfl⟩
            rw [← hqs] at ho7 hqc ⊢
            obtain ⟨M, hM⟩ : ∃ M, M = qs.length := ⟨_, rfl⟩
            have hM17 : M ≤ 17 := by rw [hM, hqs, List.length_append]; omega
            rw [← hM] at ho7 hqc ⊢
            have HO7 := Lib.hid ho7
            have HMM := Lib.hid hM
            have m1 : (M : Int) ≤ (qc : Int) := by omega
            have m2 : (M : Int) ≤ 17 := by omega
            clear ho7 ho7o hg7 hqs hM hqc
            go_wp2_with fail
            go_loopw [96] (fun s wr => ∃ i : Nat, s = .int .i64 (i : Nat) ∧ i ≤ M ∧ Kp w7 wr) (fun s _ => M - (intOf s).toNat)
            case atStart => exact ⟨0, rfl, Nat.zero_le _, Kp.refl _⟩
            case round =>
              obtain ⟨i, rfl, hiM, hkp⟩ := hrel
              rename World => wv
              have HKP := Lib.hid hkp
              by_cases hi : i < M
              · obtain ⟨x, hx⟩ : ∃ x, qs[i]? = some x := ⟨_, List.getElem?_eq_getElem (by have := HMM.out; omega)⟩
                have hxo : KyOk x := HO7.out.ok x (List.mem_of_getElem? hx)
                obtain ⟨cb, off, rfl, hcell⟩ := ((HO7.out.keep hkp).kw).cell (by omega)
                obtain ⟨c0, c1, c2⟩ := hcell i x hx
                have i1 : (i : Int) < (M : Int) := by omega
                have HB1 := Lib.hid (Blk.new wv 29 #[.int .i64 x.1, .string (st x.2.1), .string (st x.2.2)])
                have HKA := Lib.hid (kp_alloc wv (.cells #[.int .i64 x.1, .string (st x.2.1), .string (st x.2.2)] 29))
                have HKW := Lib.hid (Kp.trans HO7.out.kp (Kp.trans hkp HKA.out))
                have HP1 := Lib.hid (Key_any hxo n (HM.out.keep HKW.out) (HC.out.keep HKW.out))
                have HP2 := Lib.hid (fun W => rKey_any hxo n W)
                obtain ⟨R, hR⟩ : ∃ R, R = keyR n x := ⟨_, rfl⟩
                obtain ⟨E, hE⟩ : ∃ E, E = keyE n x := ⟨_, rfl⟩
                rw [← hR, ← hE] at HP1
                rw [← hR, ← hE] at HP2
                obtain ⟨x1, x2, x3⟩ := x
                obtain ⟨y1, y2, y3⟩ := R
                simp only [vK] at HB1 HKA HP1 HP2 c0 c1 c2
                obtain ⟨T2, hT2⟩ : ∃ S, S = st y2 := ⟨_, rfl⟩
                obtain ⟨T3, hT3⟩ : ∃ S, S = st y3 := ⟨_, rfl⟩
                rw [← hT2, ← hT3] at HP1
                rw [← hT2, ← hT3] at HP2
                have r2 := bs_refl T2
                have r3 := bs_refl T3
                clear hx hxo hcell hR hE hT2 hT3 hkp
                go_wp2_with fail
                refine HP1.out.mono ?_
                rintro e w8 ⟨rfl, hk8⟩
                have HK8 := Lib.hid (Kp.trans HKA.out hk8)
                have b8 := (HB1.out.keep hk8).keep (kp_alloc w8 (.cells #[.int .i64 y1, .string T2, .string T3] 29))
                have d0 := b8.cell 0 rfl; have d1 := b8.cell 1 rfl; have d2 := b8.cell 2 rfl
                have HB8 := Lib.hid (Blk.new w8 29 #[.int .i64 y1, .string T2, .string T3])
                have HKB := Lib.hid (kp_alloc w8 (.cells #[.int .i64 y1, .string T2, .string T3] 29))
                clear hk8 b8 c0 c1 c2
                go_wp2_with fail
                refine (HP2.out _).mono ?_
                rintro e w9 ⟨rfl, hk9⟩
                have b9 := (HB8.out.keep hk9).keep (kp_alloc w9 (.cells #[.int .i64 y1, .string T2, .string T3] 29))
                have g0 := b9.cell 0 rfl; have g1 := b9.cell 1 rfl; have g2 := b9.cell 2 rfl
                have HK9 := Lib.hid (Kp.trans HKP.out (Kp.trans HK8.out (Kp.trans HKB.out (Kp.trans hk9 (kp_alloc w9 (.cells #[.int .i64 y1, .string T2, .string T3] 29))))))
                clear hk9 b9 d0 d1 d2
                go_wp2_with fail
                go_roundw
                case rel => exact ⟨i + 1, by go_num, by omega, HK9.out⟩
                case measure => simp [intOf]; omega
              · have i1 : (M : Int) ≤ (i : Int) := by omega
                clear hi hkp
                go_wp2_with fail
                go_roundw
                case rel => exact ⟨j + 1, by go_num, by omega, HO7o.out.keep HKP.out, HB7.out.keep HKP.out⟩
                case measure => simp [intOf]; omega
          · have j1 : (6 : Int) ≤ (j : Int) := by omega
            have HAW := Lib.hid (awakeL_any HMY.out HCY.out)
            clear ho hbi hj
            go_wp2_with fail
            refine HAW.out.mono ?_
            rintro e w5 ⟨rfl, hk5⟩
            have HK5 := Lib.hid (Kp.trans HO.out.kp hk5)
            clear hk5
            go_wp2_with fail
            go_ret
            exact ⟨rfl, HK5.out⟩
      | false =>
        obtain ⟨vz, hvz⟩ : ∃ v, v = Value.slice oa ol oc := ⟨_, rfl⟩
        obtain ⟨kz, hkz⟩ : ∃ kz, kz = ks := ⟨_, rfl⟩
        obtain ⟨wz, hwz⟩ : ∃ W, W = w2 := ⟨_, rfl⟩
        have hl12 : kz.length ≤ 12 := by rw [hkz]; omega
        have HOZ : Hid (OwK w wz vz kz) := Lib.hid (by rw [hvz, hkz, hwz]; exact HO2.out)
        rw [← hvz, ← hwz]
        clear hkz hvz hwz
        have HL12 := Lib.hid hl12
        obtain ⟨⟨za, zl, zc, rfl⟩, -⟩ := row_frm HOZ.out.owns
        have HIB := Lib.hid (Blk.new wz 3 #[.int .i64 1, .int .i64 2, .int .i64 3, .int .i64 0, .int .i64 4, .int .i64 a])
        have HKI := Lib.hid (kp_alloc wz (.cells #[.int .i64 1, .int .i64 2, .int .i64 3, .int .i64 0, .int .i64 4, .int .i64 a] 3))
        obtain ⟨ib, hib⟩ : ∃ ib, ib = wz.heap.size := ⟨_, rfl⟩
        have HNB : Hid (∀ k, (Value.slice za zl zc).ownBlock = some k → k ≠ ib) := Lib.hid (fun k hk e => by have := ((row_frm HOZ.out.owns).2 k hk).2; omega)
        rw [← hib] at HIB
        have HI := Lib.hid hib
        clear hib
        go_wp2_with fail
        rw [← HI.out]
        go_loopw [51] (fun s wr => ∃ j : Nat, s = .int .i64 (j : Nat) ∧ j ≤ 6 ∧ OwK w wr (.slice za zl zc) kz ∧ Blk wr ib 3 #[.int .i64 1, .int .i64 2, .int .i64 3, .int .i64 0, .int .i64 4, .int .i64 a]) (fun s _ => 6 - (intOf s).toNat)
        case atStart => exact ⟨0, rfl, by omega, HOZ.out.keep HKI.out, HIB.out⟩
        case round =>
          obtain ⟨j, rfl, hj6, ho, hbi⟩ := hrel
          rename World => wy
          have HO := Lib.hid ho
          have HBI := Lib.hid hbi
          have HMY := Lib.hid (HM.out.keep ho.kp); have HCY := Lib.hid (HC.out.keep ho.kp)
          by_cases hj : j < 6
          · obtain ⟨n, hn⟩ : ∃ n, (tryN a)[j]? = some n := ⟨_, List.getElem?_eq_getElem (by unfold tryN; simpa using hj)⟩
            have cj := hbi.cell j (tryN_cell a hn)
            have j1 : (j : Int) < 6 := by omega
            have HK1 := Lib.hid (Keys_any n ho.kw hl12 HMY.out HCY.out)
            clear ho hbi hn
            go_wp2_with fail
            refine HK1.out.mono ?_
            rintro e w3 ⟨u3, rfl, hu3, -, hk3⟩
            have HU3 := Lib.hid hu3; have HK3 := Lib.hid hk3
            obtain ⟨ua, uc, rfl, -, -, -⟩ := hu3.open3
            have HK2 := Lib.hid (rKeys_any n ((HO.out.keep hk3).kw) (by omega))
            clear hu3 hk3 cj
            go_wp2_with fail
            refine HK2.out.mono ?_
            rintro e w4 ⟨u4, rfl, hu4, hk4⟩
            have HU4 := Lib.hid hu4; have HK4 := Lib.hid (Kp.trans HK3.out hk4)
            have hlk : (keysL n kz).length ≤ 1000 := by have := keysL_len n kz; omega
            have HSM := Lib.hid (SameK_any (HU3.out.keep hk4) hu4 hlk hlk)
            rw [show decide (keysL n kz = keysL n kz) = true from decide_eq_true rfl] at HSM
            obtain ⟨va, vc, rfl, -, -, -⟩ := hu4.open3
            clear hu4 hk4 hlk
            go_wp2_with fail
            refine HSM.out.mono ?_
            rintro e w5 ⟨rfl, hk5⟩
            have HK5 := Lib.hid (Kp.trans HK4.out hk5)
            have HCC := Lib.hid (HCY.out.keep HK5.out)
            have HF1 := Lib.hid (Finer_any n b HCC.out)
            have HF2 := Lib.hid (rFiner_any n b w5)
            have HF3 := Lib.hid (Finer_any n 2 HCC.out)
            have HF4 := Lib.hid (rFiner_any n 2 w5)
            obtain ⟨D1, hD1⟩ : ∃ D, D = decide (1 ≤ n ∧ b ≤ 3 ∧ n < b) := ⟨_, rfl⟩
            obtain ⟨D2, hD2⟩ : ∃ D, D = decide (1 ≤ n ∧ (2 : Int) ≤ 3 ∧ n < 2) := ⟨_, rfl⟩
            rw [← hD1] at HF1 HF2
            rw [← hD2] at HF3 HF4
            clear hk5 hD1 hD2
            go_wp2_with fail
            refine HF1.out.mono ?_
            rintro e w6 ⟨rfl, rfl⟩
            go_wp2_with fail
            refine HF2.out.mono ?_
            rintro e w6 ⟨rfl, rfl⟩
            go_wp2_with fail
            refine HF3.out.mono ?_
            rintro e w6 ⟨rfl, rfl⟩
            go_wp2_with fail
            refine HF4.out.mono ?_
            rintro e w6 ⟨rfl, rfl⟩
            have HO6 := Lib.hid (HO.out.keep HK5.out)
            have HB6 := Lib.hid (HBI.out.keep HK5.out)
            go_wp2_with (at_builtin; refine wpList_ks (w := w) rfl (.tmp 92) (.tmp 93) rfl _ _ rfl HO6.out rfl (HPS.out.keep HO6.out.kp) (by omega) ?_)
            intro v7 w7 ho7 ho7o hg7 _
            have HO7o := Lib.hid ho7o
            have HB7 := Lib.hid (HB6.out.by hg7 (fun e => HNB.out _ e.symm rfl))
            obtain ⟨qa, qc, rfl, hqc, -, -⟩ := ho7.kw.open3
            obtain ⟨qs, hqs⟩ : ∃ qs, qs = kz ++ ps := ⟨_, rfl⟩
            rw [← hqs] at ho7 hqc ⊢
            obtain ⟨M, hM⟩ : ∃ M, M = qs.length := ⟨_, rfl⟩
            have hM17 : M ≤ 17 := by rw [hM, hqs, List.length_append]; omega
            rw [← hM] at ho7 hqc ⊢
            have HO7 := Lib.hid ho7
            have HMM := Lib.hid hM
            have m1 : (M : Int) ≤ (qc : Int) := by omega
            have m2 : (M : Int) ≤ 17 := by omega
            clear ho7 ho7o hg7 hqs hM hqc
            go_wp2_with fail
            go_loopw [96] (fun s wr => ∃ i : Nat, s = .int .i64 (i : Nat) ∧ i ≤ M ∧ Kp w7 wr) (fun s _ => M - (intOf s).toNat)
            case atStart => exact ⟨0, rfl, Nat.zero_le _, Kp.refl _⟩
            case round =>
              obtain ⟨i, rfl, hiM, hkp⟩ := hrel
              rename World => wv
              have HKP := Lib.hid hkp
              by_cases hi : i < M
              · obtain ⟨x, hx⟩ : ∃ x, qs[i]? = some x := ⟨_, List.getElem?_eq_getElem (by have := HMM.out; omega)⟩
                have hxo : KyOk x := HO7.out.ok x (List.mem_of_getElem? hx)
                obtain ⟨cb, off, rfl, hcell⟩ := ((HO7.out.keep hkp).kw).cell (by omega)
                obtain ⟨c0, c1, c2⟩ := hcell i x hx
                have i1 : (i : Int) < (M : Int) := by omega
                have HB1 := Lib.hid (Blk.new wv 29 #[.int .i64 x.1, .string (st x.2.1), .string (st x.2.2)])
                have HKA := Lib.hid (kp_alloc wv (.cells #[.int .i64 x.1, .string (st x.2.1), .string (st x.2.2)] 29))
                have HKW := Lib.hid (Kp.trans HO7.out.kp (Kp.trans hkp HKA.out))
                have HP1 := Lib.hid (Key_any hxo n (HM.out.keep HKW.out) (HC.out.keep HKW.out))
                have HP2 := Lib.hid (fun W => rKey_any hxo n W)
                obtain ⟨R, hR⟩ : ∃ R, R = keyR n x := ⟨_, rfl⟩
                obtain ⟨E, hE⟩ : ∃ E, E = keyE n x := ⟨_, rfl⟩
                rw [← hR, ← hE] at HP1
                rw [← hR, ← hE] at HP2
                obtain ⟨x1, x2, x3⟩ := x
                obtain ⟨y1, y2, y3⟩ := R
                simp only [vK] at HB1 HKA HP1 HP2 c0 c1 c2
                obtain ⟨T2, hT2⟩ : ∃ S, S = st y2 := ⟨_, rfl⟩
                obtain ⟨T3, hT3⟩ : ∃ S, S = st y3 := ⟨_, rfl⟩
                rw [← hT2, ← hT3] at HP1
                rw [← hT2, ← hT3] at HP2
                have r2 := bs_refl T2
                have r3 := bs_refl T3
                clear hx hxo hcell hR hE hT2 hT3 hkp
                go_wp2_with fail
                refine HP1.out.mono ?_
                rintro e w8 ⟨rfl, hk8⟩
                have HK8 := Lib.hid (Kp.trans HKA.out hk8)
                have b8 := (HB1.out.keep hk8).keep (kp_alloc w8 (.cells #[.int .i64 y1, .string T2, .string T3] 29))
                have d0 := b8.cell 0 rfl; have d1 := b8.cell 1 rfl; have d2 := b8.cell 2 rfl
                have HB8 := Lib.hid (Blk.new w8 29 #[.int .i64 y1, .string T2, .string T3])
                have HKB := Lib.hid (kp_alloc w8 (.cells #[.int .i64 y1, .string T2, .string T3] 29))
                clear hk8 b8 c0 c1 c2
                go_wp2_with fail
                refine (HP2.out _).mono ?_
                rintro e w9 ⟨rfl, hk9⟩
                have b9 := (HB8.out.keep hk9).keep (kp_alloc w9 (.cells #[.int .i64 y1, .string T2, .string T3] 29))
                have g0 := b9.cell 0 rfl; have g1 := b9.cell 1 rfl; have g2 := b9.cell 2 rfl
                have HK9 := Lib.hid (Kp.trans HKP.out (Kp.trans HK8.out (Kp.trans HKB.out (Kp.trans hk9 (kp_alloc w9 (.cells #[.int .i64 y1, .string T2, .string T3] 29))))))
                clear hk9 b9 d0 d1 d2
                go_wp2_with fail
                go_roundw
                case rel => exact ⟨i + 1, by go_num, by omega, HK9.out⟩
                case measure => simp [intOf]; omega
              · have i1 : (M : Int) ≤ (i : Int) := by omega
                clear hi hkp
                go_wp2_with fail
                go_roundw
                case rel => exact ⟨j + 1, by go_num, by omega, HO7o.out.keep HKP.out, HB7.out.keep HKP.out⟩
                case measure => simp [intOf]; omega
          · have j1 : (6 : Int) ≤ (j : Int) := by omega
            have HAW := Lib.hid (awakeL_any HMY.out HCY.out)
            clear ho hbi hj
            go_wp2_with fail
            refine HAW.out.mono ?_
            rintro e w5 ⟨rfl, hk5⟩
            have HK5 := Lib.hid (Kp.trans HO.out.kp hk5)
            clear hk5
            go_wp2_with fail
            go_ret
            exact ⟨rfl, HK5.out⟩
/-- The law. -/
theorem keysLaw {u v : Value} {xs : List Int} {rs : List Ky} {w : World} (hm : MX w) (hc : CO w) (hx : SlI w u xs) (hp : Kw w v rs) (a : Int) (ha : -9223372036854775808 ≤ a ∧ a ≤ 9223372036854775807) (b : Int) (hb : -9223372036854775808 ≤ b ∧ b ≤ 9223372036854775807) :
    Calls Tryd.prog 3 #[u, v, .int .i64 a, .int .i64 b] w fun e w' => e = .returned (.bool true) ∧ Kp w w' := by
  by_cases h5 : rs.length ≤ 5
  · exact keys5 hm hc hx hp h5 a b
  · exact keys6 hm hc hx hp (by omega) a b
end By
end Go.Proofs.YtpgnckjgclbepaaDoor
