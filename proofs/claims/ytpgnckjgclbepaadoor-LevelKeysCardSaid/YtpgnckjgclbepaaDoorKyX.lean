/- The reference's Insert of keys. Condition: at most a thousand keys. -/
import Derived.Test.YtpgnckjgclbepaaDoorKyW
namespace Go.Proofs.YtpgnckjgclbepaaDoor
namespace By
open Go.RowKit WireN LexN RevN KeyN
set_option linter.unusedVariables false
set_option linter.unusedSimpArgs false

theorem kz_ok : KyOk ((0, [], []) : Ky) := ⟨⟨Lt.nil, Lt.nil⟩, by simp, by simp⟩
/-- What Insert makes of a row to which a place was appended. -/
theorem ins_row {ks : List Ky} {k : Ky} {p : Nat} (hp : p = posK ks k) (hne : ks[p]? ≠ some k) : insK ks k = ks.take p ++ k :: ks.drop p := by
  rw [insK_pos, ← hp, if_neg hne]
theorem ins_shift {ks : List Ky} {p : Nat} (hp : p < ks.length) (z k : Ky) : ((((ks ++ [z]).take (p + 1)) ++ ((ks ++ [z]).drop p).take (ks.length + 1 - (p + 1))).set p k) = ks.take p ++ k :: ks.drop p := by
  have e1 : (ks ++ [z]).take (p + 1) = ks.take (p + 1) := by rw [List.take_append_of_le_length (by omega)]
  have e2 : ((ks ++ [z]).drop p).take (ks.length + 1 - (p + 1)) = ks.drop p := by
    rw [List.drop_append_of_le_length (by omega), List.take_append_of_le_length (by rw [List.length_drop]; omega)]
    exact List.take_of_length_le (by rw [List.length_drop]; omega)
  rw [e1, e2, List.take_add_one, List.append_assoc]
  rw [List.set_append_right _ _ (by rw [List.length_take]; omega)]
  have : p - (ks.take p).length = 0 := by rw [List.length_take]; omega
  rw [this, List.getElem?_eq_getElem hp]
  rfl
theorem ins_end {ks : List Ky} (z k : Ky) : (ks ++ [z]).set ks.length k = ks.take ks.length ++ k :: ks.drop ks.length := by
  rw [List.take_length, List.drop_length, List.set_append_right _ _ (Nat.le_refl _), Nat.sub_self]
  rfl
set_option maxRecDepth 100000 in
set_option maxHeartbeats 16000000 in
theorem rInsert_any {w wx : World} {v : Value} {ks : List Ky} {k : Ky} (hown : OwK w wx v ks) (hk : KyOk k) (hl : ks.length ≤ 900) :
    Calls Tryd.prog 37 #[v, vK k] wx fun e w' => ∃ v', e = .returned v' ∧ OwK w w' v' (insK ks k) := by
  obtain ⟨p, hp⟩ : ∃ p, p = posK ks k := ⟨_, rfl⟩
  have HP := Lib.hid hp
  have hpl : p ≤ ks.length := by rw [hp]; exact posK_le ks k
  obtain ⟨zs, hzs⟩ : ∃ zs, zs = insK ks k := ⟨_, rfl⟩
  rw [← hzs]
  have HZS := Lib.hid hzs
  have HKO := Lib.hid hk
  obtain ⟨W0, hW0⟩ : ∃ W, W = wx.alloc (.cells #[.int .i64 k.1, .string (st k.2.1), .string (st k.2.2)] 29) := ⟨_, rfl⟩
  have hk0 : Kp wx W0 := by rw [hW0]; exact kp_alloc _ _
  have bk : Blk W0 wx.heap.size 29 #[.int .i64 k.1, .string (st k.2.1), .string (st k.2.2)] := by rw [hW0]; exact Blk.new _ _ _
  have HO0 := Lib.hid (hown.keep hk0)
  have HBK := Lib.hid bk
  have HW0 := Lib.hid hW0
  have HNE : Hid (∀ b, v.ownBlock = some b → b ≠ wx.heap.size) := Lib.hid (fun b hb e => by have := ((row_frm hown.owns).2 b hb).2; omega)
  obtain ⟨⟨va, n, vc, rfl⟩, -⟩ := row_frm hown.owns
  have hnn : n = ks.length := by
    obtain ⟨_, _, e, -, -, -⟩ := hown.kw.open3
    simp only [Value.slice.injEq] at e
    exact e.2.1
  have hvc : n ≤ vc := by
    obtain ⟨_, _, e, h, -, -⟩ := hown.kw.open3
    simp only [Value.slice.injEq] at e
    omega
  have HN := Lib.hid hnn
  have HW0S : Hid (wx.heap.size < W0.heap.size) := Lib.hid bk.lt
  have i1 : (n : Int) ≤ (vc : Int) := by omega
  have i2 : (n : Int) ≤ 900 := by omega
  have hpn : p ≤ n := by omega
  obtain ⟨k1, k2, k3⟩ := k
  simp only [vK] at bk HBK HW0 ⊢
  obtain ⟨S2, hS2⟩ : ∃ S, S = st k2 := ⟨_, rfl⟩
  obtain ⟨S3, hS3⟩ : ∃ S, S = st k3 := ⟨_, rfl⟩
  rw [← hS2, ← hS3] at HBK HW0 ⊢
  have HS2 := Lib.hid hS2; have HS3 := Lib.hid hS3
  clear hp hpl hzs hk hW0 hk0 bk hown hnn hvc hl hS2 hS3
  go_enter Tryd.func37, Tryd.ntmps37
  go_wp2_with fail
  rw [← HW0.out]
  go_loopw [5] (fun s wr => ∃ i : Nat, s = .int .i64 (i : Nat) ∧ i ≤ p ∧ Kp W0 wr) (fun s _ => p - (intOf s).toNat)
  case atStart => exact ⟨0, rfl, Nat.zero_le _, Kp.refl _⟩
  case round =>
    obtain ⟨i, rfl, hip, hkp⟩ := hrel
    rename World => wy
    have HKP := Lib.hid hkp
    have bk := HBK.out.keep hkp
    have b0 := bk.cell 0 rfl; have b1 := bk.cell 1 rfl; have b2 := bk.cell 2 rfl
    clear hkp bk
    by_cases hin : i < n
    · obtain ⟨x, hx⟩ : ∃ x, ks[i]? = some x := ⟨_, List.getElem?_eq_getElem (by have := HN.out; omega)⟩
      have hxo : KyOk x := HO0.out.ok x (List.mem_of_getElem? hx)
      obtain ⟨b, off, rfl, hcell⟩ := ((HO0.out.keep HKP.out).kw).cell (by omega)
      have HCELL : Hid (∀ W, Kp wy W → K3 W b (off + i * 3) x ∧ (W.cell? ⟨wx.heap.size, 0, none⟩ = some (.int .i64 k1) ∧ W.cell? ⟨wx.heap.size, 1, none⟩ = some (.string S2) ∧ W.cell? ⟨wx.heap.size, 2, none⟩ = some (.string S3))) := Lib.hid (fun W hk =>
        ⟨(hcell i x hx).keep hk, cell_kept b0 hk, cell_kept b1 hk, cell_kept b2 hk⟩)
      have HLS := Lib.hid (fun W => rLess_any hxo HKO.out W)
      have HLT : Hid (lk x (k1, k2, k3) = decide (i < p)) := Lib.hid (by
        by_cases h : i < p
        · rw [decide_eq_true h]
          rw [HP.out] at h
          exact posK_lt h hx
        · obtain rfl : i = p := by omega
          rw [decide_eq_false h]
          rw [HP.out] at hx
          exact posK_at hx)
      have HX := Lib.hid hx; have HXO := Lib.hid hxo
      obtain ⟨x1, x2, x3⟩ := x
      simp only [vK] at HLS
      rw [← HS2.out, ← HS3.out, HLT.out] at HLS
      obtain ⟨T2, hT2⟩ : ∃ S, S = st x2 := ⟨_, rfl⟩
      obtain ⟨T3, hT3⟩ : ∃ S, S = st x3 := ⟨_, rfl⟩
      simp only [K3] at HCELL
      rw [← hT2, ← hT3] at HLS HCELL
      have HT2 := Lib.hid hT2; have HT3 := Lib.hid hT3
      have j1 : (i : Int) < (n : Int) := by omega
      obtain ⟨d, hd⟩ : ∃ d, d = decide (i < p) := ⟨_, rfl⟩
      rw [← hd] at HLS
      have HD := Lib.hid hd
      clear hx hxo hcell hT2 hT3 b0 b1 b2 hd
      go_wp2_with fail
      go_region_held3 (fun w' => (w'.cell? ⟨b, off + i * 3, none⟩ = some (.int .i64 x1) ∧ w'.cell? ⟨b, off + i * 3 + 1, none⟩ = some (.string T2) ∧ w'.cell? ⟨b, off + i * 3 + 2, none⟩ = some (.string T3)) ∧ (w'.cell? ⟨wx.heap.size, 0, none⟩ = some (.int .i64 k1) ∧ w'.cell? ⟨wx.heap.size, 1, none⟩ = some (.string S2) ∧ w'.cell? ⟨wx.heap.size, 2, none⟩ = some (.string S3)))
        (first
          | exact HCELL.out _ (Kp.refl _)
          | exact HCELL.out _ (kp_drew _)
          | exact HCELL.out _ hk2
          | fail "no keep")
        (first
          | (go_at_call 52; refine (HLS.out _).mono ?_; rintro e w2 ⟨rfl, hk2'⟩; have hk2 := Kp.trans (kp_drew wy) hk2')
          | fail "no arm")
      have HK2 := Lib.hid hk2
      clear hk2 hk2'
      by_cases hip2 : i < p
      · rw [decide_eq_true hip2] at HD
        obtain rfl := HD.out
        go_wp2_with fail
        go_roundw
        case rel => exact ⟨i + 1, by go_num, by omega, Kp.trans HKP.out HK2.out⟩
        case measure => simp [intOf]; omega
      · rw [decide_eq_false hip2] at HD
        obtain rfl := HD.out
        obtain rfl : i = p := by omega
        obtain ⟨⟨c0, c1, c2⟩, e0, e1, e2⟩ := HCELL.out w2 HK2.out
        have q2 := st_eqk HXO.out.1.1 HKO.out.1.1
        have q3 := st_eqk HXO.out.1.2 HKO.out.1.2
        simp only at q2 q3
        rw [← HT2.out, ← HS2.out] at q2
        rw [← HT3.out, ← HS3.out] at q3
        by_cases he : ((x1, x2, x3) : Ky) = (k1, k2, k3)
        · have FIN : Hid (∃ v', Ending.returned (.slice (some ⟨b, off, none⟩) n vc) = .returned v' ∧ OwK w w2.drew v' zs) := Lib.hid ⟨_, rfl, by
            have : zs = ks := by rw [HZS.out, insK_pos, ← HP.out, if_pos (by rw [HX.out, he])]
            rw [this]
            exact (HO0.out.keep (Kp.trans HKP.out HK2.out)).keep (kp_drew _)⟩
          simp only [Prod.mk.injEq] at he
          obtain ⟨rfl, rfl, rfl⟩ := he
          go_wp2_with fail
          go_region
          go_wp2_with fail
          go_ret
          exact FIN.out
        · have HINS : Hid (zs = ks.take i ++ (k1, k2, k3) :: ks.drop i) := Lib.hid (by
            rw [HZS.out]
            exact ins_row HP.out (by rw [HX.out]; intro h; injection h with h; exact he h))
          have hne := ky_ne (fun e => he e.symm : ((k1, k2, k3) : Ky) ≠ (x1, x2, x3))
          simp only at hne
          have HO2 := Lib.hid (((HO0.out.keep (Kp.trans HKP.out HK2.out)).keep (kp_drew _)).keep (kp_alloc w2.drew (.cells #[.int .i64 0, .string ⟨#[]⟩, .string ⟨#[]⟩] 29)))
          have HBN := Lib.hid (Blk.new w2.drew 29 #[.int .i64 0, .string ⟨#[]⟩, .string ⟨#[]⟩])
          have HB2 := Lib.hid (((HBK.out.keep (Kp.trans HKP.out HK2.out)).keep (kp_drew _)).keep (kp_alloc w2.drew (.cells #[.int .i64 0, .string ⟨#[]⟩, .string ⟨#[]⟩] 29)))
          clear he
          rcases hne with h1 | ⟨rfl, h2⟩ | ⟨rfl, rfl, h3⟩
          all_goals
            (try have h1' := Ne.symm h1)
            (try have h2' := Ne.symm h2)
            (try have h3' := Ne.symm h3)
            go_wp2_with fail
            go_region
            go_wp2_with (at_builtin; refine wpList_ky (w := w) rfl (.tmp 33) (.tmp 35) rfl _ rfl HO2.out (by have := HN.out; omega) (0, [], []) kz_ok w2.heap.size rfl HBN.out ?_)
            intro v' w3 ho3 hg3 ha3
            have HB3 := HB2.out.by hg3 (fun e => HNE.out _ e.symm rfl)
            obtain ⟨g, c, rfl, hgw, hnc, hcm, hrk⟩ := ho3.rkc (by simp)
            have hgne : g ≠ wx.heap.size := by
              rcases ha3 with e | e
              · intro e2; subst e2; exact HNE.out _ e.symm rfl
              · have e2 : g = w2.drew.heap.size + 1 := by simpa [Value.ownBlock] using e
                have := HW0S.out; have := (Kp.trans HKP.out HK2.out).size
                have e3 : w2.drew.heap.size = w2.heap.size := rfl
                omega
            obtain ⟨N, hN⟩ : ∃ N, N = (ks ++ [((0, [], []) : Ky)]).length := ⟨_, rfl⟩
            have hNn : N = n + 1 := by rw [hN, List.length_append, HN.out]; rfl
            rw [← hN] at hnc ⊢
            obtain ⟨w5, kk, hcp, hr5, ho5⟩ := shift_k (hrk.keep (kp_drew w3)) (N := N) hN.symm (i := i) (by omega) hnc
            have HB5 := (HB3.keep (kp_drew w3)).other ho5 (fun e => hgne e.symm)
            have hk5 : Kp w w5 := Only.kp (Kp.trans ho3.kp (kp_drew w3)) ho5 hgw
            obtain ⟨z1, hz1⟩ : ∃ z1, z1 = (ks ++ [((0, [], []) : Ky)]).take (i + 1) ++ ((ks ++ [((0, [], []) : Ky)]).drop i).take (N - (i + 1)) := ⟨_, rfl⟩
            rw [← hz1] at hr5
            have hzl : z1.length = N := by rw [hz1, List.length_append, List.length_take, List.length_take, List.length_drop, ← hN]; omega
            obtain ⟨y, hy⟩ : ∃ y, z1[i]? = some y := ⟨_, List.getElem?_eq_getElem (by omega)⟩
            obtain ⟨d0, d1, d2⟩ := hr5.rk.cell hy
            have f0 := hr5.rk.free (i * 3); have f1 := hr5.rk.free (i * 3 + 1); have f2 := hr5.rk.free (i * 3 + 2)
            have b0 := HB5.cell 0 rfl; have b1 := HB5.cell 1 rfl; have b2 := HB5.cell 2 rfl
            have j2 : (i : Int) + 1 < (N : Int) := by omega
            have j3 : (N : Int) ≤ (c : Int) := by omega
            have j4 : (N : Int) ≤ 901 := by omega
            have j5 : (i : Int) < (N : Int) := by omega
            have j6 : (i : Int) ≤ (N : Int) := by omega
            have hset : z1.set i (k1, k2, k3) = zs := by
              rw [hz1, HINS.out, hN, List.length_append]
              exact ins_shift (by have := HN.out; omega) _ _
            have FIN : Hid (∃ v', Ending.returned (.slice (some ⟨g, 0, none⟩) N c) = .returned v' ∧ OwK w (((w5.setCell ⟨g, i * 3, none⟩ (.int .i64 k1)).setCell ⟨g, i * 3 + 1, none⟩ (.string S2)).setCell ⟨g, i * 3 + 2, none⟩ (.string S3)) v' zs) := Lib.hid ⟨_, rfl, by
              have h6 := hr5.put (i := i) (by omega) (k1, k2, k3)
              rw [hset] at h6
              have o6 := RK.only (w := w5) (g := g) i (k1, k2, k3)
              rw [← HS2.out, ← HS3.out] at h6 o6
              refine h6.own (by rw [← hset, List.length_set]; exact hzl) hnc hcm hgw (Only.kp hk5 o6 hgw) fun q hq => ?_
              rw [HZS.out] at hq
              rcases mem_ins.1 hq with h | h
              · exact HO0.out.ok q h
              · rw [h]; exact HKO.out⟩
            clear HB3 hgw hnc hcm hrk hgne hN hNn hr5 ho5 HB5 hk5 hz1 hzl hy hset ho3 hg3 ha3
            go_wp2_with fail
            go_region
            go_wp2_with fail
            go_ret
            exact FIN.out
    · obtain rfl : i = p := by omega
      have hin' : i = n := by omega
      have HIN := Lib.hid hin'
      have HINS : Hid (zs = ks.take i ++ (k1, k2, k3) :: ks.drop i) := Lib.hid (by
        rw [HZS.out]
        refine ins_row HP.out ?_
        rw [List.getElem?_eq_none (by rw [← HN.out]; omega)]
        simp)
      have hni : (n : Int) ≤ (i : Int) := by omega
      have hdi : decide (i < n) = false := decide_eq_false hin
      have HO2 := Lib.hid ((((HO0.out.keep HKP.out).keep (kp_drew _)).keep (kp_drew _)).keep (kp_alloc wy.drew.drew (.cells #[.int .i64 0, .string ⟨#[]⟩, .string ⟨#[]⟩] 29)))
      have HBN := Lib.hid (Blk.new wy.drew.drew 29 #[.int .i64 0, .string ⟨#[]⟩, .string ⟨#[]⟩])
      have HB2 := Lib.hid ((((HBK.out.keep HKP.out).keep (kp_drew _)).keep (kp_drew _)).keep (kp_alloc wy.drew.drew (.cells #[.int .i64 0, .string ⟨#[]⟩, .string ⟨#[]⟩] 29)))
      clear hin hin' b0 b1 b2
      go_wp2_with fail
      go_region
      go_wp2_with fail
      go_region
      go_wp2_with (at_builtin; refine wpList_ky (w := w) rfl (.tmp 33) (.tmp 35) rfl _ rfl HO2.out (by have := HN.out; omega) (0, [], []) kz_ok wy.heap.size rfl HBN.out ?_)
      intro v' w3 ho3 hg3 ha3
      have HB3 := HB2.out.by hg3 (fun e => HNE.out _ e.symm rfl)
      obtain ⟨g, c, rfl, hgw, hnc, hcm, hrk⟩ := ho3.rkc (by simp)
      have hgne : g ≠ wx.heap.size := by
        rcases ha3 with e | e
        · intro e2; subst e2; exact HNE.out _ e.symm rfl
        · have e2 : g = wy.drew.drew.heap.size + 1 := by simpa [Value.ownBlock] using e
          have := HW0S.out; have := HKP.out.size
          have e3 : wy.drew.drew.heap.size = wy.heap.size := rfl
          omega
      obtain ⟨N, hN⟩ : ∃ N, N = (ks ++ [((0, [], []) : Ky)]).length := ⟨_, rfl⟩
      have hNn : N = i + 1 := by rw [hN, List.length_append, ← HN.out, HIN.out]; rfl
      rw [← hN] at hnc ⊢
      have HB4 := HB3.keep (kp_drew w3)
      have hr4 := hrk.keep (kp_drew w3)
      have hk4 : Kp w w3.drew := Kp.trans ho3.kp (kp_drew w3)
      obtain ⟨y, hy⟩ : ∃ y, (ks ++ [((0, [], []) : Ky)])[i]? = some y := ⟨_, List.getElem?_eq_getElem (by rw [← hN]; omega)⟩
      obtain ⟨d0, d1, d2⟩ := hrk.rk.cell hy
      have f0 := hrk.rk.free (i * 3); have f1 := hrk.rk.free (i * 3 + 1); have f2 := hrk.rk.free (i * 3 + 2)
      have b0 := HB3.cell 0 rfl; have b1 := HB3.cell 1 rfl; have b2 := HB3.cell 2 rfl
      have j2 : (i : Int) + 1 ≤ (N : Int) := by omega
      have j3 : (N : Int) ≤ (c : Int) := by omega
      have j4 : (N : Int) ≤ 901 := by omega
      have j5 : (i : Int) < (N : Int) := by omega
      have j6 : (i : Int) ≤ (N : Int) := by omega
      have hset : (ks ++ [((0, [], []) : Ky)]).set i (k1, k2, k3) = zs := by
        rw [HINS.out, HIN.out, HN.out]
        exact ins_end _ _
      have FIN : Hid (∃ v', Ending.returned (.slice (some ⟨g, 0, none⟩) N c) = .returned v' ∧ OwK w (((w3.drew.setCell ⟨g, i * 3, none⟩ (.int .i64 k1)).setCell ⟨g, i * 3 + 1, none⟩ (.string S2)).setCell ⟨g, i * 3 + 2, none⟩ (.string S3)) v' zs) := Lib.hid ⟨_, rfl, by
        have h6 := hr4.put (i := i) (by rw [← hN]; omega) (k1, k2, k3)
        rw [hset] at h6
        have o6 := RK.only (w := w3.drew) (g := g) i (k1, k2, k3)
        rw [← HS2.out, ← HS3.out] at h6 o6
        refine h6.own (by rw [← hset, List.length_set]; exact hN.symm) hnc hcm hgw (Only.kp hk4 o6 hgw) fun q hq => ?_
        rw [HZS.out] at hq
        rcases mem_ins.1 hq with h | h
        · exact HO0.out.ok q h
        · rw [h]; exact HKO.out⟩
      have hcp : ∀ (ty : TypeId) (d a : Addr) (c1 l2 c2 : Nat), (Builtin.copy_ #[23, 23] ty #[.slice (some d) 0 c1, .slice (some a) l2 c2]).run Tryd.prog w3.drew = .ok (goInt 0) w3.drew := by
        intro ty d a c1 l2 c2
        obtain ⟨inf, hi1, hi2, hi3, hi4⟩ := info_parts infoKey
        have hl : (loadCells a 0).run Tryd.prog w3.drew = .ok #[] w3.drew := by simpa using run_loadCells_list (P := Tryd.prog) w3.drew a [] (by simp)
        simp [Builtin.copy_, run_underlying Tryd.underlying23, Builtin.lenOf, Builtin.firstCells, sizeOf, typeInfo, hi1, hi3, hl, storeCells]
      clear HB3 hgw hcm hrk hgne hN ho3 hg3 ha3 HB4 hr4 hk4 hy hset
      by_cases hci : c = i + 1
      · subst hci
        clear hnc
        go_wp2_with fail
        go_region
        go_wp2_with fail
        go_ret
        exact FIN.out
      · have j7 : (i : Int) + 1 < (c : Int) := by omega
        clear hnc
        go_wp2_with fail
        go_region
        go_wp2_with fail
        go_ret
        exact FIN.out
end By
end Go.Proofs.YtpgnckjgclbepaaDoor
