/- The program's Keep. Condition: at most a million numbers. -/
import Derived.Test.YtlfoikjbbbhbdaaMSt
import Derived.Test.YtlfoikjbbbhbdaaMCj
namespace Go.Proofs.Ytlfoikjbbbhbdaa
namespace By
open Go.RowKit WireN CtN
set_option linter.unusedVariables false
set_option linter.unusedSimpArgs false

/-- A block of numbers. -/
def JB (W : World) (g : Nat) (ds : List Int) : Prop := Blk W g 3 (icel ds).toArray
theorem JB.cell {W : World} {g : Nat} {ds : List Int} {k : Nat} {x : Int} (h : JB W g ds) (hx : ds[k]? = some x) : W.cell? ⟨g, k, none⟩ = some (.int .i64 x) := Blk.cell h k (by simpa using icel_at hx)
theorem JB.set {W : World} {g : Nat} {ds : List Int} (h : JB W g ds) (k : Nat) (x : Int) : JB (W.setCell ⟨g, k, none⟩ (.int .i64 x)) g (ds.set k x) := by
  have := Blk.set h k (.int .i64 x)
  unfold JB
  rw [show (icel (ds.set k x)).toArray = (icel ds).toArray.setIfInBounds k (.int .i64 x) by simp [icel, List.map_set]]
  exact this
theorem make_int13 {n : Nat} (hn : n ≤ 1000000) (W : World) : (Instr.makeSlice 22 (.int .i64 (n : Int)) (.int .i64 (n : Int))).run Try.prog W = .ok (.slice (some ⟨W.heap.size, 0, none⟩) n n) (W.alloc (.cells (icel (List.replicate n 0)).toArray 3)) := by
  obtain ⟨i0, hi, hz0, hz1, hz2⟩ := info_parts infoIx
  have h := run_make (P := Try.prog) W 22 3 i0 (.int .i64 0) Try.underlying22 hi hz0 .i64 .i64 (n : Int) (n : Int) (by omega) (Int.le_refl _) (by rw [hz2]; omega) (by omega)
  rw [hz1, Nat.mul_one, Int.toNat_natCast] at h
  rw [h]
  have e : madeCells (Value.int .i64 0).cells n = (icel (List.replicate n 0)).toArray := by
    apply Array.ext
    · simp [madeCells, icel]
    · intro i h1 h2
      simp [madeCells, icel, Value.cells, Nat.mod_one]
  rw [e]
/-- The new numbers so far, and zeros behind them. -/
def dsK (n : Nat) (N : List Int) : List Int := N ++ List.replicate (n - N.length) 0
theorem dsK_set {n : Nat} {N : List Int} (h : N.length < n) (x y : Int) : ((dsK n N).set N.length y).set N.length x = dsK n (N ++ [x]) ∧ (dsK n N).set N.length x = dsK n (N ++ [x]) ∧ (dsK n N)[N.length]? = some 0 := by
  have e : n - N.length = (n - (N.length + 1)) + 1 := by omega
  have h2 : (dsK n N).set N.length x = dsK n (N ++ [x]) := by
    unfold dsK
    rw [List.set_append_right _ _ (Nat.le_refl _), Nat.sub_self, e, List.replicate_succ, List.set_cons_zero, List.append_assoc, List.length_append]
    rfl
  refine ⟨by rw [List.set_set]; exact h2, h2, ?_⟩
  unfold dsK
  rw [List.getElem?_append_right (Nat.le_refl _), Nat.sub_self, e, List.replicate_succ]
  rfl
theorem dsK_full {n : Nat} {N : List Int} (h : N.length = n) : dsK n N = N := by simp [dsK, h]
theorem kps_ix (us : List Int) (s : List Tx) (hl : s.length ≤ 4096) : ∀ x ∈ (kps us s 0 0).2, IxOk x := by
  intro x hx
  obtain ⟨j, hj⟩ := List.mem_iff_getElem?.1 hx
  unfold IxOk
  rcases kps_get us s 0 0 j x hj with ⟨_, k, h1, t, _, h2⟩ | ⟨_, h1⟩
  · have h3 := (List.getElem?_eq_some_iff.1 h2).1
    have h4 := (kps_len us s 0 0).2
    rw [h1]
    omega
  · omega
/-- A store that is being made in cell o, and a block of numbers. -/
structure KpI (W wy : World) (o g : Nat) (u : Value) (T : List Tx) (D : List Int) : Prop where
  mi : MgI W wy o u (.slice none 0 0) T []
  jb : JB wy g D
  gw : W.heap.size ≤ g
  ne : g ≠ o
  ug : ∀ c, u.ownBlock = some c → c ≠ g
theorem KpI.keep {W wy w' : World} {o g : Nat} {u : Value} {T : List Tx} {D : List Int} (h : KpI W wy o g u T D) (hk : Kp wy w') : KpI W w' o g u T D := ⟨h.mi.keep hk, Blk.keep h.jb hk, h.gw, h.ne, h.ug⟩
theorem KpI.kp {W wy : World} {o g : Nat} {u : Value} {T : List Tx} {D : List Int} (h : KpI W wy o g u T D) : Kp W wy := h.mi.kp
theorem KpI.set {W wy : World} {o g : Nat} {u : Value} {T : List Tx} {D : List Int} (h : KpI W wy o g u T D) (k : Nat) (x : Int) : KpI W (wy.setCell ⟨g, k, none⟩ (.int .i64 x)) o g u T (D.set k x) := by
  have hg : wy.grownBy (wy.setCell ⟨g, k, none⟩ (.int .i64 x)) (some g) := Only.gr ((Only.refl g wy).set k _)
  have hr : ∀ r, some g = some r → W.heap.size ≤ r := fun r hr => by injection hr with hr; rw [← hr]; exact h.gw
  refine ⟨⟨h.mi.blk.by hg (fun e => h.ne (Option.some.inj e).symm), h.mi.ow.by hg hr (fun c hc e => h.ug c hc (Option.some.inj e).symm), h.mi.oj.by hg hr (fun c hc => by simp [Value.ownBlock] at hc), h.mi.ho, h.mi.d1, h.mi.d2, h.mi.d3⟩, h.jb.set k x, h.gw, h.ne, h.ug⟩
theorem KpI.text {W wx w6 : World} {o g : Nat} {u v6 : Value} {T U : List Tx} {D : List Int} (h : KpI W wx o g u T D) (ho6 : OwT W w6 v6 U) (hg6 : wx.grownBy w6 u.ownBlock) (ha6 : v6.ownBlock = u.ownBlock ∨ v6.ownBlock = some wx.heap.size) :
    Blk w6 o 25 #[u] ∧ KpI W (w6.setCell ⟨o, 0, none⟩ v6) o g v6 U D := by
  obtain ⟨h1, h2⟩ := h.mi.text ho6 hg6 ha6
  have hgo : w6.grownBy (w6.setCell ⟨o, 0, none⟩ v6) (some o) := Only.gr ((Only.refl o w6).set 0 v6)
  have hgl : g < wx.heap.size := Blk.lt h.jb
  refine ⟨h1, h2, Blk.by (Blk.by h.jb hg6 (fun e => h.ug g e.symm rfl)) hgo (fun e => h.ne (Option.some.inj e)), h.gw, h.ne, fun c hc e => ?_⟩
  rcases ha6 with hh | hh
  · exact h.ug c (hh ▸ hc) e
  · rw [hh] at hc; injection hc with hc
    omega
set_option maxRecDepth 100000 in
set_option maxHeartbeats 8000000 in
theorem keep_any {w : World} {v vu : Value} {s : List Tx} {us : List Int} (hs : Tw w v s) (hu : Jw w vu us) (hul : us.length ≤ 1000000) :
    Calls Try.prog 19 #[.agg #[v], vu] w (KeepR s us w) := by
  obtain ⟨Q, hQ⟩ : ∃ Q, Q = KeepR s us w := ⟨_, rfl⟩
  rw [← hQ]
  obtain ⟨W, hW⟩ : ∃ W, W = (w.alloc (.cells #[v] 25)).alloc (.cells #[.slice none 0 0] 25) := ⟨_, rfl⟩
  have hk0 : Kp w W := by rw [hW]; exact Kp.alloc (kp_alloc _ _) _
  have b1 : Blk W w.heap.size 25 #[v] := by rw [hW]; exact (Blk.new _ _ _).keep (kp_alloc _ _)
  have b2 : Blk W (w.heap.size + 1) 25 #[.slice none 0 0] := by
    have := Blk.new (w.alloc (.cells #[v] 25)) 25 #[.slice none 0 0]
    rw [hW]
    simpa using this
  have hsz : W.heap.size = w.heap.size + 2 := by rw [hW]; simp
  have FIN : Hid (∀ (W' W2 : World) (u0 u nv : Value) (E : Nat) (A : Act), W2 = W'.setCell ⟨w.heap.size + 1, 0, none⟩ u → Blk W' (w.heap.size + 1) 25 #[u0] → Kp w W' → A.defers = [] → A.tmps.getD 4 undef = .pointer (some ⟨w.heap.size + 1, 0, none⟩) → A.tmps.getD 5 undef = nv → A.tmps.getD 6 undef = .int .i64 (E : Nat) → Tw W' u (kpL s us) → (∀ c, u.ownBlock = some c → w.heap.size + 2 ≤ c) → Jw W' nv (kpN s us) → (∀ c, nv.ownBlock = some c → w.heap.size + 2 ≤ c) → E = kpE s us →
      bodyPost Try.prog Try.f19 Q .ret A W2) := Lib.hid (by
    intro W' W2 u0 u nv E A hw2 hb hk h0 h4 h5 h6 hT hu hJ hv hE
    subst hw2
    have b3 := hb.set 0 u
    have e0 := b3.cell 0 (v := u) rfl
    have h4' : A.tmps[4]?.getD undef = .pointer (some ⟨w.heap.size + 1, 0, none⟩) := by simpa using h4
    have h5' : A.tmps[5]?.getD undef = nv := by simpa using h5
    have h6' : A.tmps[6]?.getD undef = .int .i64 (E : Nat) := by simpa using h6
    refine bodyPost_ret (v := .tuple #[.agg #[u], nv, .int .i64 (E : Nat)]) (by simp [results, Try.results19, go_sem, h4', h5', h6', e0]) h0 ?_
    rw [hQ]
    exact ⟨u, nv, by rw [hE], hT.setc (fun b hb2 => by have := hu b hb2; omega), hJ.setc (fun b hb2 => by have := hv b hb2; omega), fun b hb2 => by have := hu b hb2; omega, fun b hb2 => by have := hv b hb2; omega, Only.kp hk ((Only.refl (w.heap.size + 1) W').set 0 _) (by omega)⟩)
  have BAD : Hid (∀ (W' : World) (E : Nat) (A : Act), Blk W' (w.heap.size + 1) 25 #[.slice none 0 0] → Kp w W' → A.defers = [] → A.tmps.getD 4 undef = .pointer (some ⟨w.heap.size + 1, 0, none⟩) → A.tmps.getD 5 undef = .slice none 0 0 → A.tmps.getD 6 undef = .int .i64 (E : Nat) → E ≠ 0 → E = kpE s us →
      bodyPost Try.prog Try.f19 Q .ret A W' ∧ bodyPost Try.prog Try.f19 Q .ret A (W'.setCell ⟨w.heap.size + 1, 0, none⟩ (.slice none 0 0))) := Lib.hid (by
    intro W' E A hb hk h0 h4 h5 h6 hne hE
    have hno := kpL_no (s := s) (u := us) (by rw [← hE]; exact hne)
    have h := FIN.out W' _ _ (.slice none 0 0) (.slice none 0 0) E A rfl hb hk h0 h4 h5 h6 (by rw [hno.1]; exact Tw.nil _) (fun c hc => by simp [Value.ownBlock] at hc) (by rw [hno.2]; exact Jw.nil _) (fun c hc => by simp [Value.ownBlock] at hc) hE
    refine ⟨?_, h⟩
    rw [hb.selfT (i := 0) (v := .slice none 0 0) rfl] at h
    exact h)
  have HC := Lib.hid (check_any (hs.keep hk0))
  have HIN : Hid (∀ (w1 : World), Kp W w1 → ∀ x : Int, Calls Try.prog 40 #[.agg #[v], .int .i64 x] w1 fun e w' => e = .returned (.bool (decide (0 ≤ x ∧ x < (s.length : Int)))) ∧ Kp w1 w') := Lib.hid (fun w1 hk x => isNumber_any (hs.keep (hk0.trans hk)) x)
  have HW := Lib.hid hW; have HK := Lib.hid hk0; have HB1 := Lib.hid b1; have HB2 := Lib.hid b2; have HS := Lib.hid hs; have HU := Lib.hid hu; have HSZ := Lib.hid hsz
  have c0 := b1.cell 0 rfl
  obtain ⟨E, hE⟩ : ∃ E, E = err s := ⟨_, rfl⟩
  have HE := Lib.hid hE
  rw [← hE] at HC
  obtain ⟨ao, ac, rfl, hac, -, -⟩ := hs.open3
  obtain ⟨bo, bc, rfl, hbc, -, -⟩ := hu.open3
  obtain ⟨n, hn⟩ : ∃ n, n = s.length := ⟨_, rfl⟩
  obtain ⟨m, hm⟩ : ∃ m, m = us.length := ⟨_, rfl⟩
  rw [← hn] at HW HB1 HS HC HIN c0 hac ⊢
  rw [← hm] at HU hul hbc ⊢
  have HN := Lib.hid hn; have HM := Lib.hid hm
  have i1 : (n : Int) ≤ (ac : Int) := by omega
  have i2 : (m : Int) ≤ (bc : Int) := by omega
  have i4 : (m : Int) ≤ 1000000 := by omega
  clear hs hu hk0 b1 b2 hW hE hac hbc hn hm hQ hsz
  by_cases he : E = 0
  · have q1 : ((E : Int) != 0) = false := by simp [he]
    have HZ : Hid (err s = 0) := Lib.hid (HE.out ▸ he)
    have HKE : Hid (kpE s us = kerr s.length us) := Lib.hid (by rw [kpE, if_neg (by simp [HZ.out])])
    clear he
    have hn4 : n ≤ 4096 := by have := (err_ok.1 HZ.out).1; have := HN.out; omega
    have i3 : (n : Int) ≤ 4096 := by omega
    go_enter Try.func19, Try.ntmps19
    go_wp2_with fail
    rw [← HW.out]
    refine HC.out.mono ?_
    rintro e w1 ⟨rfl, hk1⟩
    have HK1 := Lib.hid hk1
    have c1 := (HB1.out.keep hk1).cell 0 rfl
    have qm := make_bool (n := n) (by omega) w1
    obtain ⟨w2, hw2⟩ : ∃ w2, w2 = w1.alloc (.cells (bcel (mks n [])).toArray 4) := ⟨_, rfl⟩
    have hbb : BB w2 w1.heap.size (mks n []) := by rw [hw2]; exact Blk.new _ _ _
    have hk2 : Kp w1 w2 := by rw [hw2]; exact kp_alloc _ _
    rw [← hw2] at qm
    have HBB := Lib.hid hbb; have HK2 := Lib.hid hk2
    clear hk1 c0 hw2 hbb hk2
    go_wp2_with fail
    go_loopw [27] (fun i wr => ∃ (j : Nat), i = .int .i64 (j : Nat) ∧ j ≤ m ∧ Kp w1 wr ∧ BB wr w1.heap.size (mks n (us.take j)) ∧ Hid (∀ x ∈ us.take j, 0 ≤ x ∧ x < (n : Int))) (fun i _ => m - (intOf i).toNat)
    case atStart => exact ⟨0, rfl, Nat.zero_le _, HK2.out, HBB.out, Lib.hid (by simp)⟩
    case round =>
      obtain ⟨j, rfl, hj, hkr, hbr, HALL⟩ := hrel
      rename World => wr
      have HKR := Lib.hid hkr; have HBR := Lib.hid hbr
      have c2 := ((HB1.out.keep HK1.out).keep hkr).cell 0 rfl
      by_cases hlt : j < m
      · obtain ⟨x, hx⟩ : ∃ x, us[j]? = some x := ⟨_, List.getElem?_eq_getElem (by have := HM.out; omega)⟩
        have hxo : IxOk x := HU.out.ok x (List.mem_of_getElem? hx)
        obtain ⟨b, off, rfl, hcell⟩ := (HU.out.keep ((HK.out.trans HK1.out).trans hkr)).cell (by omega)
        have d0 := hcell j x hx
        have j1 : (j : Int) < (m : Int) := by omega
        have HX := Lib.hid hx
        have HCI := Lib.hid (HIN.out wr (HK1.out.trans hkr) x)
        clear hcell hx
        by_cases hin : 0 ≤ x ∧ x < (n : Int)
        · rw [decide_eq_true hin] at HCI
          obtain ⟨p, rfl⟩ : ∃ p : Nat, x = (p : Int) := ⟨x.toNat, by omega⟩
          have hp1 : (p : Int) < (n : Int) := hin.2
          have hpn : p < n := by omega
          have HPN := Lib.hid hpn
          have HST : Hid (us.take (j + 1) = us.take j ++ [(p : Int)]) := Lib.hid (by rw [List.take_add_one, HX.out]; rfl)
          have HAL2 : Hid (∀ x ∈ us.take (j + 1), 0 ≤ x ∧ x < (n : Int)) := Lib.hid (by
            rw [HST.out]; intro x hx
            rcases List.mem_append.1 hx with h | h
            · exact HALL.out x h
            · obtain rfl : x = (p : Int) := by simpa using h
              exact ⟨by omega, by omega⟩)
          clear hin hkr hbr hxo hpn
          go_wp2_with fail
          refine HCI.out.mono ?_
          rintro e w3 ⟨rfl, hk3⟩
          have hb3 : BB w3 w1.heap.size (mks n (us.take j)) := Blk.keep HBR.out hk3
          have hc3 := BB.cell hb3 (mks_at (u := us.take j) HPN.out)
          have hf3 := Blk.free hb3 p
          have HNX : Hid (Kp w1 (w3.setCell ⟨w1.heap.size, p, none⟩ (.bool true)) ∧ BB (w3.setCell ⟨w1.heap.size, p, none⟩ (.bool true)) w1.heap.size (mks n (us.take (j + 1)))) := Lib.hid ⟨Only.kp (HKR.out.trans hk3) ((Only.refl w1.heap.size w3).set p _) (Nat.le_refl _), by
            rw [HST.out, ← mks_set HPN.out]; exact BB.set hb3 p true⟩
          clear hk3 hb3 c2 d0
          go_wp2_with fail
          go_roundw
          case rel => exact ⟨j + 1, by go_num, by omega, HNX.out.1, HNX.out.2, HAL2⟩
          case measure => simp [intOf]; omega
        · rw [decide_eq_false hin] at HCI
          have F : Hid (20 = kpE s us) := Lib.hid (by
            rw [HKE.out, kerr, if_neg]
            intro h
            have := h x (List.mem_of_getElem? HX.out)
            rw [← HN.out] at this
            exact hin this)
          clear hkr hbr hin hxo
          go_wp2_with fail
          refine HCI.out.mono ?_
          rintro e w3 ⟨rfl, hk3⟩
          have hb4 := (HB2.out.keep HK1.out).keep (HKR.out.trans hk3)
          have HB4 := Lib.hid hb4
          have HK4 := Lib.hid ((HK.out.trans HK1.out).trans (HKR.out.trans hk3))
          have f4 := hb4.free 0; have d4 := hb4.cell 0 rfl
          clear hk3 hb4 c2 d0
          go_wp2_with fail
          first
          | exact (BAD.out _ 20 _ HB4.out HK4.out rfl rfl rfl rfl (by decide) F.out).1
          | exact (BAD.out _ 20 _ HB4.out HK4.out rfl rfl rfl rfl (by decide) F.out).2
      · obtain rfl : j = m := by omega
        have htk : us.take j = us := List.take_of_length_le (by have := HM.out; omega)
        rw [htk] at HBR HALL
        have HOK : Hid (kpE s us = 0) := Lib.hid (by rw [HKE.out, kerr, if_pos (by rw [← HN.out]; exact HALL.out)])
        obtain ⟨w6, hw6⟩ : ∃ W, W = (wr.alloc (.cells #[.slice none 0 0] 25)).alloc (.cells (icel (List.replicate n 0)).toArray 3) := ⟨_, rfl⟩
        obtain ⟨o, ho⟩ : ∃ o, o = wr.heap.size := ⟨_, rfl⟩
        obtain ⟨g, hg⟩ : ∃ g, g = wr.heap.size + 1 := ⟨_, rfl⟩
        have hk6 : Kp wr w6 := by rw [hw6]; exact Kp.alloc (kp_alloc _ _) _
        have hI0 : KpI wr w6 o g (.slice none 0 0) [] (dsK n []) := by
          refine ⟨⟨?_, (OwT.start wr).keep hk6, (OwJ.start wr).keep hk6, by omega, fun c hc => by simp [Value.ownBlock] at hc, fun c hc => by simp [Value.ownBlock] at hc, fun c hc e => by simp [Value.ownBlock] at e⟩, ?_, by omega, by omega, fun c hc => by simp [Value.ownBlock] at hc⟩
          · rw [hw6, ho]; exact (Blk.new _ _ _).keep (kp_alloc _ _)
          · have := Blk.new (wr.alloc (.cells #[.slice none 0 0] 25)) 3 (icel (List.replicate n 0)).toArray
            rw [hw6, hg]
            simpa [JB, dsK] using this
        have qm2 := make_int13 (n := n) (by omega) (wr.alloc (.cells #[.slice none 0 0] 25))
        rw [← hw6, show (wr.alloc (.cells #[.slice none 0 0] 25)).heap.size = g by rw [hg]; simp] at qm2
        have c3 := (((HB1.out.keep HK1.out).keep hkr).keep (kp_alloc wr (.cells #[.slice none 0 0] 25))).cell 0 rfl
        have c6 := (((HB1.out.keep HK1.out).keep hkr).keep hk6).cell 0 rfl
        have HI0 := Lib.hid hI0; have HO := Lib.hid ho
        clear htk hkr hbr hlt hI0 hw6 ho hg hk6 HALL
        go_wp2_with fail
        rw [← HO.out]
        go_loopw [47] (fun i wy => ∃ (k : Nat) (u : Value), i = .int .i64 (k : Nat) ∧ k ≤ n ∧ KpI wr wy o g u (kps us (s.take k) 0 0).1 (dsK n (kps us (s.take k) 0 0).2)) (fun i _ => n - (intOf i).toNat)
        case atStart => exact ⟨0, _, rfl, Nat.zero_le _, HI0.out⟩
        case round =>
          obtain ⟨k, u, rfl, hk, hI⟩ := hrel
          rename World => wy
          have HI := Lib.hid hI
          obtain ⟨⟨u1, u2, u3, rfl⟩, -⟩ := row_frc hI.mi.ow.owns
          have hul := hI.mi.ow.tw.len
          by_cases hlt : k < n
          · obtain ⟨y, hy⟩ : ∃ y, s[k]? = some y := ⟨_, List.getElem?_eq_getElem (by have := HN.out; omega)⟩
            have hyo : TxOk y := HS.out.ok y (List.mem_of_getElem? hy)
            have hkw : Kp w wy := ((HK.out.trans HK1.out).trans HKR.out).trans hI.kp
            obtain ⟨bb, bf, rfl, hcell⟩ := (HS.out.keep hkw).cell (by omega)
            have d0 := hcell k y hy
            have j1 : (k : Int) < (n : Int) := by omega
            have hst := kps_step (us := us) hy
            have hlen : (kps us (s.take k) 0 0).1.length ≤ 4096 := by
              have := (kps_len us (s.take k) 0 0).2
              rw [List.length_take] at this
              omega
            have hnl : (kps us (s.take k) 0 0).2.length = k := by
              have := (kps_len us (s.take k) 0 0).1
              rw [List.length_take] at this
              have := HN.out
              omega
            obtain ⟨T, hTT⟩ : ∃ T, T = (kps us (s.take k) 0 0).1 := ⟨_, rfl⟩
            obtain ⟨N, hNN⟩ : ∃ N, N = (kps us (s.take k) 0 0).2 := ⟨_, rfl⟩
            rw [← hTT] at hI HI hul hst hlen
            rw [← hNN] at hI HI hst hnl
            have hds := fun x y => dsK_set (n := n) (N := N) (by omega) x y
            rw [hnl] at hds
            have HDS := Lib.hid hds
            have hI1 := hI.set k (-1)
            have HI1 := Lib.hid hI1
            have g0 := JB.cell hI.jb (hds 0 0).2.2
            have g0' := Blk.free hI.jb k
            have HLN : Hid (T.length ≤ 1000000) := Lib.hid (by omega)
            have HYO := Lib.hid hyo; have HUL := Lib.hid hul
            have d1 := BB.cell (Blk.keep HBR.out hI1.kp) (mks_at (u := us) hlt)
            obtain ⟨Y, hY⟩ : ∃ Y, Y = st y := ⟨_, rfl⟩
            rw [← hY] at d0
            have HYY := Lib.hid hY
            have i5 : (u2 : Int) ≤ 4096 := by omega
            by_cases hmem : (k : Int) ∈ us
            · rw [decide_eq_true hmem] at d1
              have HS2 : Hid ((kps us (s.take (k + 1)) 0 0).1 = T ++ [y] ∧ dsK n (kps us (s.take (k + 1)) 0 0).2 = ((dsK n N).set k (-1)).set k (u2 : Int)) := Lib.hid (by
                rw [hst, if_pos hmem, ← hul]
                exact ⟨rfl, ((hds (u2 : Int) (-1)).1).symm⟩)
              have e0 := hI1.mi.blk.cell 0 rfl
              have e1 := JB.cell hI1.jb (x := -1) (k := k) (by
                have h0 := (hds 0 0).2.2
                rw [List.getElem?_set_self (List.getElem?_eq_some_iff.1 h0).1])
              have e2 := Blk.free hI1.jb k
              have hI2 := hI1.set k (u2 : Int)
              have e3 := hI2.mi.blk.cell 0 rfl
              obtain ⟨W4, hW4⟩ : ∃ W, W = ((wy.setCell ⟨g, k, none⟩ (.int .i64 (-1))).setCell ⟨g, k, none⟩ (.int .i64 (u2 : Int))).drew := ⟨_, rfl⟩
              have HI4 : Hid (KpI wr W4 o g (.slice u1 u2 u3) T (((dsK n N).set k (-1)).set k (u2 : Int))) := Lib.hid (hI2.keep (by rw [hW4]; exact kp_drew _))
              have c4 := HI4.out.mi.blk.cell 0 rfl
              have HCL : Hid (∀ w, Calls Try.prog 41 #[.string Y] w fun e w' => e = .returned (.string Y) ∧ Kp w w') := Lib.hid (fun w => by rw [hY]; exact Clone_t hyo w)
              have HW4 := Lib.hid hW4
              clear hI hI1 hI2 hkw hy hyo hcell hst hlen hnl hTT hNN hul hY hk hmem hds hW4
              go_wp2_with fail
              refine wp_region_any (by kernel_rfl) ?_
              change wpAny _ _ _ _ _ _ _ (World.drew _)
              rw [← HW4.out]
              clear e0 e1 e2
              refine wpAny_take (i := 0) (v := (.pointer (some ⟨o, 0, none⟩))) rfl (by kernel_rfl) (by kernel_rfl) (by kernel_rfl) (fun _ _ _ h => h) (Or.inl ⟨by rfl, fun wq => ?_⟩) ?_
              · go_simp
              try simp only [Act.put, List.setIfInBounds_toArray, List.set_cons_zero, List.set_cons_succ]
              refine wpAny_take (i := 2) (v := (.string Y)) rfl (by kernel_rfl) (by kernel_rfl) (by kernel_rfl) (fun _ _ _ h => h) (Or.inl ⟨by rfl, fun wq => ?_⟩) ?_
              · go_simp
              try simp only [Act.put, List.setIfInBounds_toArray, List.set_cons_zero, List.set_cons_succ]
              refine wpAny_ready (rs := [1, 3]) (by kernel_rfl) (by simp) (AllReady.cons rfl (fun KK hK => ?_) (AllReady.cons rfl (fun KK hK => ?_) AllReady.nil))
              · go_simp
                refine hK _ _ ?_
                clear hK KK
                try simp only [Act.put, List.setIfInBounds_toArray, List.set_cons_zero, List.set_cons_succ]
                refine wpAny_ready (rs := [3]) (by kernel_rfl) (by simp) (AllReady.cons rfl (fun KK hK => ?_) AllReady.nil)
                (go_simp; go_at_call 41; refine (HCL.out _).mono ?_; rintro e w5 ⟨rfl, hk5⟩; have hI5 := HI4.out.keep hk5; have c5 := hI5.mi.blk.cell 0 rfl; clear hk5)
                refine hK _ _ ?_
                clear hK KK
                try simp only [Act.put, List.setIfInBounds_toArray, List.set_cons_zero, List.set_cons_succ]
                refine wpAny_ready (rs := [4]) (by kernel_rfl) (by simp) (AllReady.cons rfl (fun KK hK => ?_) AllReady.nil)
                (refine step_bldT rfl 69 68 rfl rfl rfl ?_; intro W6 hW6; have hI6 := hI5.keep (show Kp w5 W6 by rw [hW6]; exact kp_alloc _ _); have hb6 : Blk W6 w5.heap.size 9 #[.string (st y)] := by (rw [hW6, HYY.out]; exact Blk.new _ _ _)); (have c6 := hI6.mi.blk.cell 0 rfl; clear hW6)
                refine hK _ _ ?_
                clear hK KK
                try simp only [Act.put, List.setIfInBounds_toArray, List.set_cons_zero, List.set_cons_succ]
                refine wpAny_ready (rs := [5]) (by kernel_rfl) (by simp) (AllReady.cons rfl (fun KK hK => ?_) AllReady.nil)
                (refine step_tx (w := wr) rfl (.tmp 66) (.tmp 69) rfl (.slice u1 u2 u3) rfl hI6.mi.ow HLN.out y HYO.out w5.heap.size rfl hb6 ?_; intro v7 w7' ho7 hg7 ha7; obtain ⟨⟨x1, x2, x3, rfl⟩, -⟩ := row_frc ho7.owns; obtain ⟨hb7, hI8⟩ := hI6.text ho7 hg7 ha7; have c7 := hb7.cell 0 rfl; have f7 := hb7.free 0; rw [← HS2.out.1, ← HS2.out.2] at hI8; have HX8 := Lib.hid hI8; clear ho7 hg7 ha7 hb7 hI8)
                refine hK _ _ ?_
                clear hK KK
                try simp only [Act.put, List.setIfInBounds_toArray, List.set_cons_zero, List.set_cons_succ]
                refine wpAny_ready (rs := [6]) (by kernel_rfl) (by simp) (AllReady.cons rfl (fun KK hK => ?_) AllReady.nil)
                go_simp
                refine hK _ _ ?_
                clear hK KK
                try simp only [Act.put, List.setIfInBounds_toArray, List.set_cons_zero, List.set_cons_succ]
                refine wpAny_ready (rs := [7]) (by kernel_rfl) (by simp) (AllReady.cons rfl (fun KK hK => ?_) AllReady.nil)
                go_simp
                refine hK _ _ ?_
                clear hK KK
                try simp only [Act.put, List.setIfInBounds_toArray, List.set_cons_zero, List.set_cons_succ]
                refine wpAny_done (by kernel_rfl) ?_ _
                go_wp2_with fail
                go_roundw
                case rel => exact ⟨k + 1, _, by go_num, by omega, HX8.out⟩
                case measure => simp [intOf]; omega
              · (go_simp; go_at_call 41; refine (HCL.out _).mono ?_; rintro e w5 ⟨rfl, hk5⟩; have hI5 := HI4.out.keep hk5; have c5 := hI5.mi.blk.cell 0 rfl; clear hk5)
                refine hK _ _ ?_
                clear hK KK
                try simp only [Act.put, List.setIfInBounds_toArray, List.set_cons_zero, List.set_cons_succ]
                refine wpAny_ready (rs := [1, 4]) (by kernel_rfl) (by simp) (AllReady.cons rfl (fun KK hK => ?_) (AllReady.cons rfl (fun KK hK => ?_) AllReady.nil))
                · go_simp
                  refine hK _ _ ?_
                  clear hK KK
                  try simp only [Act.put, List.setIfInBounds_toArray, List.set_cons_zero, List.set_cons_succ]
                  refine wpAny_ready (rs := [4]) (by kernel_rfl) (by simp) (AllReady.cons rfl (fun KK hK => ?_) AllReady.nil)
                  (refine step_bldT rfl 69 68 rfl rfl rfl ?_; intro W6 hW6; have hI6 := hI5.keep (show Kp w5 W6 by rw [hW6]; exact kp_alloc _ _); have hb6 : Blk W6 w5.heap.size 9 #[.string (st y)] := by (rw [hW6, HYY.out]; exact Blk.new _ _ _)); (have c6 := hI6.mi.blk.cell 0 rfl; clear hW6)
                  refine hK _ _ ?_
                  clear hK KK
                  try simp only [Act.put, List.setIfInBounds_toArray, List.set_cons_zero, List.set_cons_succ]
                  refine wpAny_ready (rs := [5]) (by kernel_rfl) (by simp) (AllReady.cons rfl (fun KK hK => ?_) AllReady.nil)
                  (refine step_tx (w := wr) rfl (.tmp 66) (.tmp 69) rfl (.slice u1 u2 u3) rfl hI6.mi.ow HLN.out y HYO.out w5.heap.size rfl hb6 ?_; intro v7 w7' ho7 hg7 ha7; obtain ⟨⟨x1, x2, x3, rfl⟩, -⟩ := row_frc ho7.owns; obtain ⟨hb7, hI8⟩ := hI6.text ho7 hg7 ha7; have c7 := hb7.cell 0 rfl; have f7 := hb7.free 0; rw [← HS2.out.1, ← HS2.out.2] at hI8; have HX8 := Lib.hid hI8; clear ho7 hg7 ha7 hb7 hI8)
                  refine hK _ _ ?_
                  clear hK KK
                  try simp only [Act.put, List.setIfInBounds_toArray, List.set_cons_zero, List.set_cons_succ]
                  refine wpAny_ready (rs := [6]) (by kernel_rfl) (by simp) (AllReady.cons rfl (fun KK hK => ?_) AllReady.nil)
                  go_simp
                  refine hK _ _ ?_
                  clear hK KK
                  try simp only [Act.put, List.setIfInBounds_toArray, List.set_cons_zero, List.set_cons_succ]
                  refine wpAny_ready (rs := [7]) (by kernel_rfl) (by simp) (AllReady.cons rfl (fun KK hK => ?_) AllReady.nil)
                  go_simp
                  refine hK _ _ ?_
                  clear hK KK
                  try simp only [Act.put, List.setIfInBounds_toArray, List.set_cons_zero, List.set_cons_succ]
                  refine wpAny_done (by kernel_rfl) ?_ _
                  go_wp2_with fail
                  go_roundw
                  case rel => exact ⟨k + 1, _, by go_num, by omega, HX8.out⟩
                  case measure => simp [intOf]; omega
                · (refine step_bldT rfl 69 68 rfl rfl rfl ?_; intro W6 hW6; have hI6 := hI5.keep (show Kp w5 W6 by rw [hW6]; exact kp_alloc _ _); have hb6 : Blk W6 w5.heap.size 9 #[.string (st y)] := by (rw [hW6, HYY.out]; exact Blk.new _ _ _)); (have c6 := hI6.mi.blk.cell 0 rfl; clear hW6)
                  refine hK _ _ ?_
                  clear hK KK
                  try simp only [Act.put, List.setIfInBounds_toArray, List.set_cons_zero, List.set_cons_succ]
                  refine wpAny_ready (rs := [1]) (by kernel_rfl) (by simp) (AllReady.cons rfl (fun KK hK => ?_) AllReady.nil)
                  go_simp
                  refine hK _ _ ?_
                  clear hK KK
                  try simp only [Act.put, List.setIfInBounds_toArray, List.set_cons_zero, List.set_cons_succ]
                  refine wpAny_ready (rs := [5]) (by kernel_rfl) (by simp) (AllReady.cons rfl (fun KK hK => ?_) AllReady.nil)
                  (refine step_tx (w := wr) rfl (.tmp 66) (.tmp 69) rfl (.slice u1 u2 u3) rfl hI6.mi.ow HLN.out y HYO.out w5.heap.size rfl hb6 ?_; intro v7 w7' ho7 hg7 ha7; obtain ⟨⟨x1, x2, x3, rfl⟩, -⟩ := row_frc ho7.owns; obtain ⟨hb7, hI8⟩ := hI6.text ho7 hg7 ha7; have c7 := hb7.cell 0 rfl; have f7 := hb7.free 0; rw [← HS2.out.1, ← HS2.out.2] at hI8; have HX8 := Lib.hid hI8; clear ho7 hg7 ha7 hb7 hI8)
                  refine hK _ _ ?_
                  clear hK KK
                  try simp only [Act.put, List.setIfInBounds_toArray, List.set_cons_zero, List.set_cons_succ]
                  refine wpAny_ready (rs := [6]) (by kernel_rfl) (by simp) (AllReady.cons rfl (fun KK hK => ?_) AllReady.nil)
                  go_simp
                  refine hK _ _ ?_
                  clear hK KK
                  try simp only [Act.put, List.setIfInBounds_toArray, List.set_cons_zero, List.set_cons_succ]
                  refine wpAny_ready (rs := [7]) (by kernel_rfl) (by simp) (AllReady.cons rfl (fun KK hK => ?_) AllReady.nil)
                  go_simp
                  refine hK _ _ ?_
                  clear hK KK
                  try simp only [Act.put, List.setIfInBounds_toArray, List.set_cons_zero, List.set_cons_succ]
                  refine wpAny_done (by kernel_rfl) ?_ _
                  go_wp2_with fail
                  go_roundw
                  case rel => exact ⟨k + 1, _, by go_num, by omega, HX8.out⟩
                  case measure => simp [intOf]; omega
            · rw [decide_eq_false hmem] at d1
              have HS2 : Hid ((kps us (s.take (k + 1)) 0 0).1 = T ∧ dsK n (kps us (s.take (k + 1)) 0 0).2 = (dsK n N).set k (-1)) := Lib.hid (by
                rw [hst, if_neg hmem]
                exact ⟨rfl, ((hds (-1) 0).2.1).symm⟩)
              rw [← HS2.out.1, ← HS2.out.2] at hI1
              have HX8 := Lib.hid hI1
              clear hI hI1 hkw hy hyo hcell hst hlen hnl hTT hNN hul hY hk hmem hds
              go_wp2_with fail
              go_roundw
              case rel => exact ⟨k + 1, _, by go_num, by omega, HX8.out⟩
              case measure => simp [intOf]; omega
          · obtain rfl : k = n := by omega
            have htk : s.take k = s := List.take_of_length_le (by have := HN.out; omega)
            rw [htk] at HI
            have hnl : (kps us s 0 0).2.length = k := by have := (kps_len us s 0 0).1; have := HN.out; omega
            rw [dsK_full hnl] at HI
            have e0 := HI.out.mi.blk.cell 0 rfl
            have hb4 := ((HB2.out.keep HK1.out).keep HKR.out).keep HI.out.kp
            have HB4 := Lib.hid hb4
            have f4 := hb4.free 0; have d4 := hb4.cell 0 rfl
            have HUU : Hid (∀ c, (Value.slice u1 u2 u3).ownBlock = some c → w.heap.size + 2 ≤ c) := Lib.hid (fun c hc => by have := HI.out.mi.ow.newer c hc; have := HKR.out.size; have := HK1.out.size; have := HSZ.out; omega)
            have HV : Hid (∀ c, (Value.slice (some ⟨g, 0, none⟩) k k).ownBlock = some c → w.heap.size + 2 ≤ c) := Lib.hid (fun c hc => by
              have h1 : g = c := by simpa [Value.ownBlock] using hc
              have := HI.out.gw; have := HKR.out.size; have := HK1.out.size; have := HSZ.out; omega)
            have HJ : Hid (Jw wy (.slice (some ⟨g, 0, none⟩) k k) (kps us s 0 0).2) := Lib.hid (by
              have h := Jw.blk (t := 3) HI.out.jb (kps_ix us s (by have := HN.out; omega)) (by rw [hnl]; unfold maxLen; omega)
              rwa [hnl] at h)
            clear htk hI hb4 hlt hk hul hnl
            go_wp2_with fail
            exact FIN.out wy _ _ (.slice u1 u2 u3) (.slice (some ⟨g, 0, none⟩) k k) 0 _ rfl HB4.out (((HK.out.trans HK1.out).trans HKR.out).trans HI.out.kp) rfl rfl rfl rfl (by rw [(kpL_ok HOK.out).1]; exact HI.out.mi.ow.tw) HUU.out (by rw [(kpL_ok HOK.out).2]; exact HJ.out) HV.out HOK.out.symm
  · have q1 : ((E : Int) != 0) = true := by simp; omega
    have HNZ := Lib.hid he
    have F : Hid (E = kpE s us) := Lib.hid (by rw [kpE, if_pos (by rw [← HE.out]; exact he)]; exact HE.out)
    clear he
    go_enter Try.func19, Try.ntmps19
    go_wp2_with fail
    rw [← HW.out]
    refine HC.out.mono ?_
    rintro e w1 ⟨rfl, hk1⟩
    have HK1 := Lib.hid hk1
    have hb4 := HB2.out.keep hk1
    have HB4 := Lib.hid hb4
    have f4 := hb4.free 0; have d4 := hb4.cell 0 rfl
    clear hk1 c0 hb4
    go_wp2_with fail
    first
    | exact (BAD.out _ E _ HB4.out (HK.out.trans HK1.out) rfl rfl rfl rfl HNZ.out F.out).1
    | exact (BAD.out _ E _ HB4.out (HK.out.trans HK1.out) rfl rfl rfl rfl HNZ.out F.out).2
end By
end Go.Proofs.Ytlfoikjbbbhbdaa
