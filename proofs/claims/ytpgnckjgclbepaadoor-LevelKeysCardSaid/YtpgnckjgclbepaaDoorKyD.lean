/- The library's Compact at keys. Condition: the keys lie in a row of the call's own, or there are none. -/
import Derived.Test.YtpgnckjgclbepaaDoorKyC
import Derived.Laws.IdiomCopy
namespace Go.Proofs.YtpgnckjgclbepaaDoor
namespace By
open Go.RowKit WireN LexN RevN KeyN
set_option linter.unusedVariables false
set_option linter.unusedSimpArgs false

theorem zeroKey (w : World) : (zeroValue 29).run Tryd.prog w = .ok (.agg #[.int .i64 0, .string ⟨#[]⟩, .string ⟨#[]⟩]) w := by kernel_rfl
theorem blk_setCells {g : Nat} {T : TypeId} : ∀ (vs : List Value) (o : Nat) (w : World) (A rest : List Value), Blk w g T (A ++ rest).toArray → A.length ≤ o → ∃ rest', Blk (w.setCells g o vs) g T (A ++ rest').toArray ∧ Only g w (w.setCells g o vs)
  | [], o, w, A, rest, h, ho => ⟨rest, h, Only.refl _ _⟩
  | v :: vs, o, w, A, rest, h, ho => by
    have h1 := h.set o v
    have e : (A ++ rest).toArray.setIfInBounds o v = (A ++ rest.set (o - A.length) v).toArray := by
      rw [List.setIfInBounds_toArray, List.set_append_right _ _ ho]
    rw [e] at h1
    obtain ⟨rest', h2, h3⟩ := blk_setCells vs (o + 1) (w.setCell ⟨g, o, none⟩ v) A _ h1 (by omega)
    exact ⟨rest', h2, ((Only.refl g w).set o v).trans h3⟩
theorem clear_k {w : World} {g kk n c : Nat} {zs : List Ky} (h : RK w g zs) (hn : zs.length = n) (hk : kk < n) :
    ∃ w', (∀ ty, (Builtin.clear_ #[23] ty #[.slice (some ⟨g, kk * 3, none⟩) (n - kk) c]).run Tryd.prog w = .ok (.tuple #[]) w') ∧ RK w' g (zs.take kk) ∧ Only g w w' := by
  obtain ⟨vs, hvs⟩ : ∃ vs, vs = (Builtin.zeroCells #[.int .i64 0, .string ⟨#[]⟩, .string ⟨#[]⟩] (n - kk)).toList := ⟨_, rfl⟩
  have hl : vs.length = (n - kk) * 3 := by rw [hvs]; simp [Builtin.zeroCells]
  have h1 : ∀ v ∈ vs, v.oneCell' = true := by
    intro v hv
    rw [hvs] at hv
    simp only [Builtin.zeroCells, Array.toList_map, List.mem_map] at hv
    obtain ⟨i, hi, rfl⟩ := hv
    have : i % 3 < 3 := Nat.mod_lt _ (by omega)
    obtain h0 | h0 | h0 : i % 3 = 0 ∨ i % 3 = 1 ∨ i % 3 = 2 := by omega
    · simp [h0]; rfl
    · simp [h0]; rfl
    · simp [h0]; rfl
  obtain ⟨rest, hb⟩ := h
  have hkl := kcel_len zs
  have hst := run_storeCells_cells (P := Tryd.prog) g (kk * 3) vs 0 w (fun j hj => by
      have hlt : kk * 3 + 0 + j < (kcel zs ++ rest).toArray.size := by simp; omega
      rw [hb.cell (kk * 3 + 0 + j) (Array.getElem?_eq_getElem hlt)]; rfl) (fun j hj => hb.free _) h1
  refine ⟨w.setCells g (kk * 3 + 0) vs, fun ty => ?_, ?_⟩
  · obtain ⟨m, hm⟩ : ∃ m, n - kk = m + 1 := ⟨n - kk - 1, by omega⟩
    rw [hm] at hvs ⊢
    rw [hvs] at hst ⊢
    simp [Builtin.clear_, run_underlying Tryd.underlying23, zeroKey, Value.cells]
    simp at hst
    simp [hst]
  · have e : kcel zs ++ rest = kcel (zs.take kk) ++ (kcel (zs.drop kk) ++ rest) := by rw [← List.append_assoc, ← kcel_app, List.take_append_drop]
    rw [e] at hb
    obtain ⟨rest', h2, h3⟩ := blk_setCells vs (kk * 3 + 0) w _ _ hb (by rw [kcel_len, List.length_take]; omega)
    exact ⟨⟨rest', h2⟩, h3⟩
set_option maxRecDepth 100000 in
set_option maxHeartbeats 8000000 in
theorem Compact_k {w : World} {v : Value} {g n : Nat} {ys : List Ky} (hr : SK w v ys g) (hn : ys.length = n) (hn2 : n ≤ 1000) (hok : ∀ x ∈ ys, KyOk x) :
    Calls Tryd.prog 33 #[v] w fun e w' => ∃ u, e = .returned u ∧ SK w' u (cuK ys n) g ∧ Gr g w w' := by
  have hni : (n : Int) ≤ 1000 := by omega
  rcases hr with ⟨rfl, rfl⟩ | ⟨cap, rfl, hcap, hmx, hrk⟩
  · obtain rfl : n = 0 := by simpa using hn.symm
    clear hn hok
    go_enter Tryd.func33, Tryd.ntmps33
    go_wp2_with fail
    go_ret
    exact ⟨_, rfl, .inl ⟨rfl, rfl⟩, Gr.refl _ _⟩
  · rw [hn] at hcap ⊢
    have HR := Lib.hid hrk; have HOK := Lib.hid hok; have HN := Lib.hid hn
    have HCP : Hid (n ≤ cap ∧ cap ≤ maxLen) := Lib.hid ⟨hcap, hmx⟩
    have hci : (n : Int) ≤ (cap : Int) := by omega
    have FIN : Hid (∀ (m : Nat) (zs : List Ky) (W : World), m = (cuK ys n).length → zs.take m = cuK ys n → RK W g zs → Gr g w W → m ≤ n → ∃ u, Ending.returned (.slice (some ⟨g, 0, none⟩) m cap) = .returned u ∧ SK W u (cuK ys n) g ∧ Gr g w W) := Lib.hid (fun m zs W h1 h2 h3 h4 h5 => by
      refine ⟨_, rfl, .inr ⟨cap, by rw [h1], by omega, hmx, ?_⟩, h4⟩
      rw [← h2]
      exact h3.take m)
    have ALL : Hid (n ≤ 1 → cuK ys n = ys) := Lib.hid (fun h => by
      rw [cuK_all (by omega) (fun j h1 h2 => by omega), List.take_of_length_le (by omega)])
    clear hrk hok hn hcap hmx
    by_cases h2 : n < 2
    · have h2i : (n : Int) < 2 := by omega
      have HE := ALL.out (by omega)
      have F2 := Lib.hid (FIN.out n ys w (by rw [HE, HN.out]) (by rw [HE]; exact List.take_of_length_le (by have := HN.out; omega)) HR.out (Gr.refl _ _) (Nat.le_refl _))
      clear HE
      go_enter Tryd.func33, Tryd.ntmps33
      go_wp2_with fail
      go_ret
      exact F2.out
    · have h2i : (2 : Int) ≤ (n : Int) := by omega
      go_enter Tryd.func33, Tryd.ntmps33
      go_wp2_with fail
      go_loopw [3] (fun s wr => ∃ k : Nat, s = .int .i64 (k : Nat) ∧ 1 ≤ k ∧ k ≤ n ∧ (∀ j, 0 < j → j < k → ga ys j ≠ ga ys (j - 1)) ∧ Kp w wr) (fun s _ => n - (intOf s).toNat)
      case atStart => exact ⟨1, rfl, Nat.le_refl _, by omega, fun j h1 h2 => by omega, Kp.refl _⟩
      case round =>
        obtain ⟨k, rfl, hk1, hk, hall, hkp⟩ := hrel
        rename World => wx
        have HALL := Lib.hid hall; have HKP := Lib.hid hkp
        clear hall hkp
        by_cases hkn : k < n
        · obtain ⟨m, rfl⟩ : ∃ m, k = m + 1 := ⟨k - 1, by omega⟩
          have i1 : (m : Int) < (n : Int) := by omega
          have i2 : (m : Int) + 1 < (n : Int) := by omega
          have i4 : (m : Int) < 1000 := by omega
          have i5 : (0 : Int) ≤ (m : Int) + 1 := by omega
          have hw : IntKind.i64.wrap (m : Int) = (m : Int) := by simp [IntKind.wrap, IntKind.bits, IntKind.signed]; omega
          obtain ⟨x, hx⟩ : ∃ x, x = ga ys (m + 1) := ⟨_, rfl⟩
          obtain ⟨y, hy⟩ : ∃ y, y = ga ys m := ⟨_, rfl⟩
          have hrx := HR.out.keep HKP.out
          have c0 : K3 wx g ((m + 1) * 3) x := by rw [hx]; exact hrx.cell (ga_get (by have := HN.out; omega))
          have c1 : K3 wx g (m * 3) y := by rw [hy]; exact hrx.cell (ga_get (by have := HN.out; omega))
          have hxk : KyOk x := HOK.out x (by rw [hx]; exact ga_mem (by have := HN.out; omega))
          have hyk : KyOk y := HOK.out y (by rw [hy]; exact ga_mem (by have := HN.out; omega))
          have q2 := st_eqk hxk.1.1 hyk.1.1
          have q3 := st_eqk hxk.1.2 hyk.1.2
          have HX := Lib.hid hx; have HY := Lib.hid hy
          obtain ⟨x1, x2, x3⟩ := x
          obtain ⟨y1, y2, y3⟩ := y
          obtain ⟨p0, p1, p2⟩ := c0
          obtain ⟨r0, r1, r2⟩ := c1
          simp only at p0 p1 p2 r0 r1 r2 q2 q3
          clear hx hy hrx hxk hyk
          by_cases he : ((x1, x2, x3) : Ky) = (y1, y2, y3)
          · simp only [Prod.mk.injEq] at he
            obtain ⟨rfl, rfl, rfl⟩ := he
            go_wp2_with fail
            go_region
            go_wp2_with fail
            have HE : Hid (ga ys (m + 1) = ga ys m) := Lib.hid (by rw [← HX.out, ← HY.out])
            obtain ⟨L, hL⟩ : ∃ L, L = n - (m + 1) := ⟨_, rfl⟩
            obtain ⟨C, hC⟩ : ∃ C, C = cap - (m + 1) := ⟨_, rfl⟩
            rw [← hL, ← hC]
            have HL : Hid (n = m + 1 + L) := Lib.hid (by omega)
            have HCC : Hid (cap = m + 1 + C) := Lib.hid (by have := HCP.out.1; omega)
            have l1 : (L : Int) ≤ 1000 := by omega
            have l2 : (L : Int) ≤ (C : Int) := by have := HCP.out.1; omega
            have HST : Hid (RK wx.drew g ys ∧ Gr g w wx.drew) := Lib.hid ⟨(HR.out.keep HKP.out).keep (kp_drew _), (HKP.out.gr g).trans ((kp_drew _).gr g)⟩
            have HST0 : Hid (CmpK ys ys (m + 1) (m + 1 + (0 + 1))) := Lib.hid (CmpK.start (by omega) (by rw [HN.out]; exact hkn) HALL.out HE.out)
            clear hL hC p0 p1 p2 r0 r1 r2 q2 q3
            go_loopw [3, 5] (fun s5 s3 wr => ∃ (kk q : Nat) (zs : List Ky), s5 = .int .i64 (kk : Nat) ∧ s3 = .int .i64 ((q + 1 : Nat)) ∧ q + 1 ≤ L ∧ CmpK ys zs kk (m + 1 + (q + 1)) ∧ RK wr g zs ∧ Gr g w wr) (fun _ s3 _ => L - (intOf s3).toNat)
            case atStart => exact ⟨m + 1, 0, ys, by go_num, rfl, by have := HL.out; omega, HST0.out, HST.out.1, HST.out.2⟩
            case round =>
              obtain ⟨kk, q, zs, rfl, rfl, hq, hck, hrk, hgr⟩ := hrel
              rename World => wy
              have HCK := Lib.hid hck; have HRK := Lib.hid hrk; have HGR := Lib.hid hgr
              have hkl := hck.lt
              have hzl := hck.ln
              rw [HN.out] at hzl
              have HZL := Lib.hid hzl
              clear hck hrk hgr hzl
              by_cases hqL : q + 1 < L
              · have j1 : (q : Int) + 1 < (L : Int) := by omega
                have j2 : (q : Int) < (L : Int) := by omega
                have j3 : (0 : Int) ≤ (q : Int) + 1 := by omega
                have j4 : (q : Int) < 1000 := by omega
                have hw2 : IntKind.i64.wrap (q : Int) = (q : Int) := by simp [IntKind.wrap, IntKind.bits, IntKind.signed]; omega
                have j5 : (kk : Int) < (n : Int) := by have := HL.out; omega
                obtain ⟨u, hu⟩ : ∃ u, u = ga ys (m + 1 + (q + 1)) := ⟨_, rfl⟩
                obtain ⟨v, hv⟩ : ∃ v, v = ga ys (m + 1 + q) := ⟨_, rfl⟩
                have HU := Lib.hid hu; have HV := Lib.hid hv
                have c0 : K3 wy g ((m + 1) * 3 + (q + 1) * 3) u := by
                  have h := HRK.out.cell (ga_get (l := zs) (i := m + 1 + (q + 1)) (by have := HZL.out; have := HL.out; omega))
                  rw [HCK.out.tl _ (by omega), ← hu] at h
                  rwa [show (m + 1 + (q + 1)) * 3 = (m + 1) * 3 + (q + 1) * 3 by omega] at h
                have c1 : K3 wy g ((m + 1) * 3 + q * 3) v := by
                  have h := HRK.out.cell (ga_get (l := zs) (i := m + 1 + q) (by have := HZL.out; have := HL.out; omega))
                  rw [HCK.out.tl _ (by omega), ← hv] at h
                  rwa [show (m + 1 + q) * 3 = (m + 1) * 3 + q * 3 by omega] at h
                have c2 : K3 wy g (kk * 3) (ga zs kk) := HRK.out.cell (ga_get (by have := HZL.out; omega))
                have huk : KyOk u := HOK.out u (by rw [hu]; exact ga_mem (by have := HN.out; have := HL.out; omega))
                have hvk : KyOk v := HOK.out v (by rw [hv]; exact ga_mem (by have := HN.out; have := HL.out; omega))
                have q2 := st_eqk huk.1.1 hvk.1.1
                have q3 := st_eqk huk.1.2 hvk.1.2
                have FRE : ∀ i, wy.frozen? ⟨g, i, none⟩ = false := fun i => HRK.out.free i
                have f0 := FRE (kk * 3); have f1 := FRE (kk * 3 + 1); have f2 := FRE (kk * 3 + 2)
                obtain ⟨u1, u2, u3⟩ := u
                obtain ⟨v1, v2, v3⟩ := v
                obtain ⟨p0, p1, p2⟩ := c0
                obtain ⟨r0, r1, r2⟩ := c1
                obtain ⟨o0, o1, o2⟩ := c2
                simp only at p0 p1 p2 r0 r1 r2 q2 q3
                clear hu hv huk hvk FRE
                by_cases hd : ((u1, u2, u3) : Ky) = (v1, v2, v3)
                · have NX : Hid (CmpK ys zs kk (m + 1 + (q + 1 + 1)) ∧ RK wy.drew g zs ∧ Gr g w wy.drew) := Lib.hid ⟨by
                    have := HCK.out.skip (by omega) (by rw [show m + 1 + (q + 1) - 1 = m + 1 + q by omega, ← HU.out, ← HV.out, hd])
                    exact this, HRK.out.keep (kp_drew _), HGR.out.trans ((kp_drew _).gr g)⟩
                  simp only [Prod.mk.injEq] at hd
                  obtain ⟨rfl, rfl, rfl⟩ := hd
                  go_wp2_with fail
                  go_region
                  go_wp2_with fail
                  go_roundw
                  case rel => exact ⟨kk, q + 1, zs, rfl, by go_num, by omega, NX.out⟩
                  case measure => simp [intOf]; omega
                · have hd3 : u1 ≠ v1 ∨ (u1 = v1 ∧ u2 ≠ v2) ∨ (u1 = v1 ∧ u2 = v2 ∧ u3 ≠ v3) := by
                    by_cases a1 : u1 = v1
                    · by_cases a2 : u2 = v2
                      · refine .inr (.inr ⟨a1, a2, fun a3 => hd ?_⟩)
                        rw [a1, a2, a3]
                      · exact .inr (.inl ⟨a1, a2⟩)
                    · exact .inl a1
                  have HD := Lib.hid hd
                  have NX : Hid (∀ W : World, Kp wy W → CmpK ys (zs.set kk (u1, u2, u3)) (kk + 1) (m + 1 + (q + 1 + 1)) ∧
                      RK (((W.setCell ⟨g, kk * 3, none⟩ (.int .i64 u1)).setCell ⟨g, kk * 3 + 1, none⟩ (.string (st u2))).setCell ⟨g, kk * 3 + 2, none⟩ (.string (st u3))) g (zs.set kk (u1, u2, u3)) ∧
                      Gr g w (((W.setCell ⟨g, kk * 3, none⟩ (.int .i64 u1)).setCell ⟨g, kk * 3 + 1, none⟩ (.string (st u2))).setCell ⟨g, kk * 3 + 2, none⟩ (.string (st u3)))) := Lib.hid (fun W hk => by
                    refine ⟨?_, (HRK.out.keep hk).put (by have := HZL.out; omega) (u1, u2, u3), (HGR.out.trans (hk.gr g)).trans (Only.gr (RK.only kk (u1, u2, u3)))⟩
                    have := HCK.out.put (by have := HN.out; have := HL.out; omega) (by rw [show m + 1 + (q + 1) - 1 = m + 1 + q by omega, ← HU.out, ← HV.out]; exact HD.out)
                    rw [← HU.out] at this
                    exact this)
                  clear hd
                  rcases hd3 with h1 | ⟨rfl, h2⟩ | ⟨rfl, rfl, h3⟩
                  all_goals
                    go_wp2_with fail
                    go_region
                    go_wp2_with fail
                    go_roundw
                    case rel => exact ⟨kk + 1, q + 1, _, by go_num, by go_num, by omega, NX.out _ (kp_drew _)⟩
                    case measure => simp [intOf]; omega
              · obtain rfl : L = q + 1 := by omega
                have j1 : (kk : Int) < (n : Int) := by have := HL.out; omega
                have j2 : (kk : Int) ≤ (cap : Int) := by omega
                have hnn : m + 1 + (q + 1) = n := HL.out.symm
                have hck := HCK.out
                rw [hnn] at hck
                obtain ⟨w', hcl, hr', ho⟩ := clear_k (kk := kk) (c := cap - kk) HRK.out HZL.out (by omega)
                have F2 := Lib.hid (FIN.out kk (zs.take kk) w' hck.ek (by rw [List.take_take, Nat.min_self]; exact hck.hd) hr' (HGR.out.trans (Only.gr ho)) (by omega))
                clear hck hr' ho hnn hkl
                go_wp2_with fail
                (try simp only [Exit.inBlock, Exit.then])
                go_ret
                exact F2.out
          · have hd3 : x1 ≠ y1 ∨ (x1 = y1 ∧ x2 ≠ y2) ∨ (x1 = y1 ∧ x2 = y2 ∧ x3 ≠ y3) := by
              by_cases a1 : x1 = y1
              · by_cases a2 : x2 = y2
                · refine .inr (.inr ⟨a1, a2, fun a3 => he ?_⟩)
                  rw [a1, a2, a3]
                · exact .inr (.inl ⟨a1, a2⟩)
              · exact .inl a1
            have HE : Hid (ga ys (m + 1) ≠ ga ys m) := Lib.hid (by rw [← HX.out, ← HY.out]; exact he)
            have NX : Hid ((∀ j, 0 < j → j < m + 1 + 1 → ga ys j ≠ ga ys (j - 1)) ∧ Kp w wx.drew) := Lib.hid ⟨fun j h1 h2 => by
              by_cases e : j = m + 1
              · rw [e]; exact HE.out
              · exact HALL.out j h1 (by omega), Kp.trans HKP.out (kp_drew _)⟩
            clear he
            rcases hd3 with h1 | ⟨rfl, h2⟩ | ⟨rfl, rfl, h3⟩
            all_goals
              go_wp2_with fail
              go_region
              go_wp2_with fail
              go_roundw
              case rel => exact ⟨m + 1 + 1, by go_num, by omega, by omega, NX.out⟩
              case measure => simp [intOf]; omega
        · obtain rfl : k = n := by omega
          have HE : cuK ys k = ys := by
            have := cuK_all (l := ys) (n := k) (by rw [HN.out]; exact Nat.le_refl _) HALL.out
            rw [this]; exact List.take_of_length_le (by rw [HN.out]; exact Nat.le_refl _)
          have F2 := Lib.hid (FIN.out k ys wx (by rw [HE, HN.out]) (by rw [HE]; exact List.take_of_length_le (by have := HN.out; omega)) (HR.out.keep HKP.out) (HKP.out.gr g) (Nat.le_refl _))
          clear HE
          go_wp2_with fail
          go_ret
          exact F2.out
end By
end Go.Proofs.YtpgnckjgclbepaaDoor
