/- The reference's Apply. Condition: at most two hundred changes. -/
import Derived.Test.YtfobogcccbddbaaGreatDoorZas
import Derived.Test.YtfobogcccbddbaaGreatDoorFdX
import Derived.Test.YtfobogcccbddbaaGreatDoorFdA
import Derived.Test.YtfobogcccbddbaaGreatDoorZan
import Derived.Test.YtfobogcccbddbaaGreatDoorZao
namespace Go.Proofs.YtfobogcccbddbaaGreatDoor
namespace By
open Go.RowKit WireN LexN RevN FdN
set_option linter.unusedVariables false
set_option linter.unusedSimpArgs false

theorem tkP_ok {x : Ch} (h : ChOk x) : Lt (tkP x) ∧ (tkP x).length ≤ maxLen := by
  unfold tkP tks
  obtain ⟨-, ⟨h1, h2, h3⟩, h4, h5, h6⟩ := h
  by_cases e4 : x.1 = 4
  · rw [if_pos e4]; exact ⟨h2, Nat.le_trans h5 (by unfold maxLen; omega)⟩
  · rw [if_neg e4]
    by_cases e2 : x.1 = 2 ∨ x.1 = 3
    · rw [if_pos e2]; exact ⟨h1, Nat.le_trans h4 (by unfold maxLen; omega)⟩
    · rw [if_neg e2]; exact ⟨Lt.nil, by simp⟩
theorem flz_ok : (Lt (([], []) : Fl).1 ∧ Lt (([], []) : Fl).2) ∧ ((([], []) : Fl).1.length ≤ maxLen ∧ (([], []) : Fl).2.length ≤ maxLen) := ⟨⟨Lt.nil, Lt.nil⟩, by simp, by simp⟩
theorem flok_put {w : World} {v : Value} {a : List Fl} {x : Ch} (hr : Rw w v a) (ha : chk a = 0) (hx : ChOk x) : FlOk (x.2.1, putB a x) := by
  have hf : ∀ p, Lt (findF a p).1 ∧ (findF a p).1.length ≤ maxLen := by
    intro p
    by_cases h : hasP a p = true
    · obtain ⟨f, hf, e⟩ := (hasP_iff ha).1 h
      rw [← e, find_mem ha hf]
      exact ⟨(hr.lt f hf).2, (hr.sm f hf).2⟩
    · have : findF a p = ([], false) := by
        unfold findF
        rw [if_neg (by simp [ha]), if_pos (by simpa using h)]
      rw [this]
      exact ⟨Lt.nil, by simp⟩
  obtain ⟨-, ⟨h1, h2, h3⟩, h4', h5, h6'⟩ := hx
  have h4 : x.2.1.length ≤ maxLen := by unfold maxLen; omega
  have h6 : x.2.2.2.length ≤ maxLen := by unfold maxLen; omega
  unfold putB
  by_cases e : x.1 = 4
  · rw [if_pos e]; exact ⟨⟨h1, (hf _).1⟩, h4, (hf _).2⟩
  · rw [if_neg e]; exact ⟨⟨h1, h3⟩, h4, h6⟩
set_option maxRecDepth 100000 in
set_option maxHeartbeats 16000000 in
theorem rApply_any {w : World} {va vl : Value} {a : List Fl} {l : List Ch} (ha : Rw w va a) (hl : Cw w vl l) (hll : l.length ≤ 200) :
    Calls Tryz.prog 16 #[.agg #[va], vl] w (RevR w (aplA a l)) := by
  obtain ⟨aa, ca, hva, hca, -, -⟩ := ha.open3
  obtain ⟨lo, lc, hvl, hlc, -, -⟩ := hl.open3
  obtain ⟨n, hn⟩ : ∃ n, n = l.length := ⟨_, rfl⟩
  obtain ⟨m, hm⟩ : ∃ m, m = a.length := ⟨_, rfl⟩
  rw [← hn] at hvl hlc hll
  rw [← hm] at hva hca
  subst hva hvl
  obtain ⟨Q, hQ⟩ : ∃ Q, Q = RevR w (aplA a l) := ⟨_, rfl⟩
  rw [← hQ]
  have HQ := Lib.hid hQ; have HN := Lib.hid hn; have HMA := Lib.hid hm
  obtain ⟨Wa, hWa⟩ : ∃ W, W = w.alloc (.cells #[.slice aa m ca] 25) := ⟨_, rfl⟩
  obtain ⟨W0, hW0⟩ : ∃ W, W = Wa.alloc (.cells #[.slice none 0 0] 25) := ⟨_, rfl⟩
  have ka : Kp w Wa := by rw [hWa]; exact kp_alloc _ _
  have kb : Kp Wa W0 := by rw [hW0]; exact kp_alloc _ _
  have za : Wa.heap.size = w.heap.size + 1 := by rw [hWa]; simp
  have z0 : W0.heap.size = w.heap.size + 1 + 1 := by rw [hW0]; simp [za]
  obtain ⟨pr, hpr⟩ : ∃ b, b = w.heap.size := ⟨_, rfl⟩
  obtain ⟨po, hpo⟩ : ∃ b, b = w.heap.size + 1 := ⟨_, rfl⟩
  have HBR : Hid (Blk W0 pr 25 #[.slice aa m ca]) := Lib.hid (by
    have h : Blk Wa pr 25 #[.slice aa m ca] := by rw [hWa, hpr]; exact Blk.new _ _ _
    exact h.keep kb)
  have HBO : Hid (Blk W0 po 25 #[.slice none 0 0]) := Lib.hid (by rw [hW0, hpo, ← za]; exact Blk.new _ _ _)
  have HA := Lib.hid (ha.keep (ka.trans kb)); have HL := Lib.hid (hl.keep (ka.trans kb))
  have HK0 := Lib.hid (ka.trans kb)
  have HPS : Hid (w.heap.size ≤ po ∧ po < W0.heap.size) := Lib.hid ⟨by omega, by omega⟩
  have HW0 : Hid (W0 = (w.alloc (.cells #[.slice aa m ca] 25)).alloc (.cells #[.slice none 0 0] 25)) := Lib.hid (by rw [hW0, hWa])
  have HPR := Lib.hid hpr; have HPO := Lib.hid hpo
  have HC := Lib.hid (rCheck_any HA.out)
  obtain ⟨er, her⟩ : ∃ er, er = chk a := ⟨_, rfl⟩
  rw [← her] at HC
  have HER := Lib.hid her
  have i1 : (n : Int) ≤ (200 : Int) := by omega
  have i2 : (n : Int) ≤ (lc : Int) := by omega
  have i3 : (m : Int) ≤ (ca : Int) := by omega
  have FINE : Hid (∀ (c : Nat) (t : Act) (X : World), t.defers = [] → t.tmps.getD 4 undef = .pointer (some ⟨po, 0, none⟩) → t.tmps.getD 5 undef = .int .i64 (c : Nat) → Kp W0 X → aplA a l = (c, []) → bodyPost Tryz.prog Tryz.f16 Q .ret t (X.setCell ⟨po, 0, none⟩ (.slice none 0 0))) := Lib.hid (by
    intro c t X h1 h2 h3 hk he
    have hb := (HBO.out.keep hk).set 0 (.slice none 0 0)
    have e0 := hb.cell 0 rfl
    have h2' : t.tmps[4]?.getD undef = .pointer (some ⟨po, 0, none⟩) := by simpa using h2
    have h3' : t.tmps[5]?.getD undef = .int .i64 (c : Nat) := by simpa using h3
    refine bodyPost_ret (v := .tuple #[.agg #[.slice none 0 0], .int .i64 (c : Nat)]) (by simp [results, Tryz.results16, go_sem, h2', h3', e0]) h1 ?_
    rw [HQ.out, he]
    exact ⟨_, rfl, Rw.nil _, fun b hb => by simp [Value.ownBlock] at hb, Only.kp (HK0.out.trans hk) ((Only.refl po X).set 0 _) HPS.out.1⟩)
  have FIN0 : Hid (∀ (t : Act) (W5 X : World) (pq : Nat) (v : Value) (gs : List Fl), t.defers = [] → t.tmps.getD 4 undef = .pointer (some ⟨po, 0, none⟩) → t.tmps.getD 5 undef = .int .i64 0 → Kp W0 W5 → ApS W5 X pq v gs → aplA a l = (0, gs) → bodyPost Tryz.prog Tryz.f16 Q .ret t (X.setCell ⟨po, 0, none⟩ v)) := Lib.hid (by
    intro t W5 X pq v gs h1 h2 h3 hk hs he
    have hk2 := hk.trans hs.kp
    have hb := (HBO.out.keep hk2).set 0 v
    have e0 := hb.cell 0 rfl
    have h2' : t.tmps[4]?.getD undef = .pointer (some ⟨po, 0, none⟩) := by simpa using h2
    have h3' : t.tmps[5]?.getD undef = .int .i64 0 := by simpa using h3
    have hnw : ∀ b, v.ownBlock = some b → W5.heap.size ≤ b := fun b hb => ((row_form hs.ow.owns).2 b hb).1
    have h5 := hk.size; have h6 := HPS.out
    obtain ⟨⟨v1, v2, v3, rfl⟩, -⟩ := row_form hs.ow.owns
    refine bodyPost_ret (v := .tuple #[.agg #[.slice v1 v2 v3], .int .i64 0]) (by simp [results, Tryz.results16, go_sem, h2', h3', e0]) h1 ?_
    rw [HQ.out, he]
    exact ⟨_, rfl, hs.ow.rw.only ((Only.refl po X).set 0 _) (fun b hb => by have := hnw b hb; omega), fun b hb => by have := hnw b hb; omega, Only.kp (HK0.out.trans hk2) ((Only.refl po X).set 0 _) HPS.out.1⟩)
  clear ha hl hll hn hm hQ hWa hW0 ka kb za z0 hpr hpo her hca hlc
  go_enter Tryz.func16, Tryz.ntmps16
  go_wp2_with fail
  rw [← HW0.out, ← HPO.out, ← HPR.out]
  refine HC.out.mono ?_
  rintro e w1 ⟨rfl, hk1⟩
  have HK1 := Lib.hid hk1
  clear HC
  by_cases he : er = 0
  · subst he
    have HOK : Hid (chk a = 0) := Lib.hid HER.out.symm
    have HM64 : Hid (m ≤ 64) := Lib.hid (by rw [HMA.out]; exact (chk_ok HOK.out).1)
    have i4 : (m : Int) ≤ (64 : Int) := by have := HM64.out; omega
    clear hk1 HER
    go_wp2_with fail
    go_loopw [43] (fun i wr => ∃ j : Nat, i = .int .i64 (j : Nat) ∧ j ≤ n ∧ Kp W0 wr ∧ Hid (∀ (i : Nat) (x : Ch), i < j → l[i]? = some x → wel x = true)) (fun i _ => n - (intOf i).toNat)
    case atStart => exact ⟨0, rfl, Nat.zero_le _, HK1.out, Lib.hid (fun i x hi => by omega)⟩
    case round =>
      obtain ⟨j, rfl, hj, hk, HW⟩ := hrel
      rename World => wy
      by_cases hjn : j < n
      · have j1 : (j : Int) < (n : Int) := by omega
        obtain ⟨x, hx⟩ : ∃ x, l[j]? = some x := ⟨_, List.getElem?_eq_getElem (by have := HN.out; omega)⟩
        have HxO := Lib.hid (HL.out.ok x (List.mem_of_getElem? hx))
        have HxM := Lib.hid (List.mem_of_getElem? hx)
        have Hx := Lib.hid hx
        obtain ⟨b, off, hao, hcell⟩ := (HL.out.keep (hk)).cell (by omega)
        subst hao
        obtain ⟨d0, d1, d2, d3⟩ := hcell j x hx
        obtain ⟨K1, hK1⟩ : ∃ K, K = x.1 := ⟨_, rfl⟩
        obtain ⟨S2, hS2⟩ : ∃ S, S = st x.2.1 := ⟨_, rfl⟩
        obtain ⟨S3, hS3⟩ : ∃ S, S = st x.2.2.1 := ⟨_, rfl⟩
        obtain ⟨S4, hS4⟩ : ∃ S, S = st x.2.2.2 := ⟨_, rfl⟩
        rw [← hK1] at d0
        rw [← hS2] at d1
        rw [← hS3] at d2
        rw [← hS4] at d3
        have HK1 := Lib.hid hK1; have HS2 := Lib.hid hS2; have HS3 := Lib.hid hS3; have HS4 := Lib.hid hS4
        obtain ⟨Wx, hWx⟩ : ∃ W, W = wy.alloc (.cells #[.int .i64 K1, .string S2, .string S3, .string S4] 50) := ⟨_, rfl⟩
        obtain ⟨px, hpx⟩ : ∃ b, b = wy.heap.size := ⟨_, rfl⟩
        have kWx : Kp wy Wx := by rw [hWx]; exact kp_alloc _ _
        have BWx : Hid (Blk Wx px 50 #[.int .i64 K1, .string S2, .string S3, .string S4]) := Lib.hid (by rw [hWx, hpx]; exact Blk.new _ _ _)
        have KWx := Lib.hid ((hk).trans kWx)
        have HWx := Lib.hid hWx; have Hpx := Lib.hid hpx
        have dc := BWx.out.cell 0 rfl; have dd := BWx.out.cell 1 rfl; have de := BWx.out.cell 2 rfl; have df := BWx.out.cell 3 rfl
        rw [hWx, hpx] at dc dd de df
        clear hx hcell hK1 hS2 hS3 hS4 hWx hpx kWx
        have HWE := Lib.hid (fun W => rWell_any HxO.out W)
        simp only [vC] at HWE
        rw [← HK1.out, ← HS2.out, ← HS3.out, ← HS4.out] at HWE
        obtain ⟨q, hq⟩ : ∃ q, q = wel x := ⟨_, rfl⟩
        rw [← hq] at HWE
        have HQQ := Lib.hid hq
        clear hq hk hjn
        go_wp2_with fail
        rw [← HWx.out, ← Hpx.out]
        refine (HWE.out _).mono ?_
        rintro e w2 ⟨rfl, hk2⟩
        have K2 := Lib.hid (KWx.out.trans hk2)
        have xo := (HBO.out.keep K2.out).cell 0 rfl; have fo := (HBO.out.keep K2.out).free 0
        clear hk2
        clear d0 d1 d2 d3 dc dd de df
        cases q with
        | false =>
          have HEE : Hid (aplA a l = (1, [])) := Lib.hid (aE2 HOK.out HxM.out HQQ.out.symm)
          go_wp2_with fail
          exact FINE.out 1 _ _ rfl rfl rfl K2.out HEE.out
        | true =>
          clear xo fo
          go_wp2_with fail
          go_roundw
          case rel =>
            refine ⟨j + 1, by go_num, by omega, K2.out, Lib.hid (fun i y hi hy => ?_)⟩
            by_cases e : i = j
            · subst e
              rw [Hx.out] at hy
              obtain rfl := Option.some.inj hy
              exact HQQ.out.symm
            · exact HW.out i y (by omega) hy
          case measure => (first | (simp [intOf]; omega) | simp [intOf])
      · have j1 : (n : Int) ≤ (j : Int) := by omega
        have j1' : decide (j < n) = false := decide_eq_false hjn
        have HWL : Hid (∀ x ∈ l, wel x = true) := Lib.hid (fun x hx => by
          obtain ⟨i, hi⟩ := List.mem_iff_getElem?.1 hx
          exact HW.out i x (by have := (List.getElem?_eq_some_iff.1 hi).1; have := HN.out; omega) hi)
        have HKA := Lib.hid hk
        clear hk hj hjn HW
        go_wp2_with fail
        go_loopw [54] (fun i wr => ∃ j : Nat, i = .int .i64 (j : Nat) ∧ j ≤ n ∧ Kp W0 wr ∧ Hid (noTw (l.take j))) (fun i _ => n - (intOf i).toNat)
        case atStart => exact ⟨0, rfl, Nat.zero_le _, HKA.out, Lib.hid List.Pairwise.nil⟩
        case round =>
          obtain ⟨j, rfl, hj, hk, HNT⟩ := hrel
          rename World => wy
          by_cases hjn : j < n
          · have j1 : (j : Int) < (n : Int) := by omega
            obtain ⟨x, hx⟩ : ∃ x, l[j]? = some x := ⟨_, List.getElem?_eq_getElem (by have := HN.out; omega)⟩
            have HxO := Lib.hid (HL.out.ok x (List.mem_of_getElem? hx))
            have HxM := Lib.hid (List.mem_of_getElem? hx)
            have Hx := Lib.hid hx
            obtain ⟨b, off, hao, hcell⟩ := (HL.out.keep (hk)).cell (by omega)
            subst hao
            obtain ⟨d0, d1, d2, d3⟩ := hcell j x hx
            obtain ⟨K1, hK1⟩ : ∃ K, K = x.1 := ⟨_, rfl⟩
            obtain ⟨S2, hS2⟩ : ∃ S, S = st x.2.1 := ⟨_, rfl⟩
            obtain ⟨S3, hS3⟩ : ∃ S, S = st x.2.2.1 := ⟨_, rfl⟩
            obtain ⟨S4, hS4⟩ : ∃ S, S = st x.2.2.2 := ⟨_, rfl⟩
            rw [← hK1] at d0
            rw [← hS2] at d1
            rw [← hS3] at d2
            rw [← hS4] at d3
            have HK1 := Lib.hid hK1; have HS2 := Lib.hid hS2; have HS3 := Lib.hid hS3; have HS4 := Lib.hid hS4
            obtain ⟨Wx, hWx⟩ : ∃ W, W = wy.alloc (.cells #[.int .i64 K1, .string S2, .string S3, .string S4] 50) := ⟨_, rfl⟩
            obtain ⟨px, hpx⟩ : ∃ b, b = wy.heap.size := ⟨_, rfl⟩
            have kWx : Kp wy Wx := by rw [hWx]; exact kp_alloc _ _
            have BWx : Hid (Blk Wx px 50 #[.int .i64 K1, .string S2, .string S3, .string S4]) := Lib.hid (by rw [hWx, hpx]; exact Blk.new _ _ _)
            have KWx := Lib.hid ((hk).trans kWx)
            have HWx := Lib.hid hWx; have Hpx := Lib.hid hpx
            have dc := BWx.out.cell 0 rfl; have dd := BWx.out.cell 1 rfl; have de := BWx.out.cell 2 rfl; have df := BWx.out.cell 3 rfl
            rw [hWx, hpx] at dc dd de df
            clear hx hcell hK1 hS2 hS3 hS4 hWx hpx kWx
            have HTX := Lib.hid (fun W => rTakes_any HxO.out W)
            simp only [vC] at HTX
            rw [← HK1.out, ← HS2.out, ← HS3.out, ← HS4.out] at HTX
            obtain ⟨P, hP⟩ : ∃ S, S = st (tkP x) := ⟨_, rfl⟩
            obtain ⟨b1, hb1⟩ : ∃ b, b = (tks x).isSome := ⟨_, rfl⟩
            rw [← hP, ← hb1] at HTX
            have HP := Lib.hid hP; have HB1 := Lib.hid hb1
            clear hP hb1 hk hjn
            go_wp2_with fail
            rw [← HWx.out, ← Hpx.out]
            refine (HTX.out _).mono ?_
            rintro e w2 ⟨rfl, hk2⟩
            have K2 := Lib.hid (KWx.out.trans hk2)
            have BW2 := Lib.hid (BWx.out.keep hk2)
            have j2 : (j : Int) ≤ (lc : Int) := by omega
            have j2' : (0 : Int) ≤ (j : Int) := by omega
            clear hk2
            clear d0 d1 d2 d3 dc dd de df
            go_wp2_with fail
            go_loopw [68] (fun i wr => ∃ k : Nat, i = .int .i64 (k : Nat) ∧ k ≤ j ∧ Kp w2 wr ∧ Hid (∀ (i : Nat) (y : Ch), i < k → l[i]? = some y → tw x y = false)) (fun i _ => j - (intOf i).toNat)
            case atStart => exact ⟨0, rfl, Nat.zero_le _, Kp.refl _, Lib.hid (fun i y hi => by omega)⟩
            case round =>
              obtain ⟨k, rfl, hkj, hkk, HNO⟩ := hrel
              rename World => wz
              by_cases hkn : k < j
              · have j3 : (k : Int) < (j : Int) := by omega
                obtain ⟨y, hy⟩ : ∃ x, l[k]? = some x := ⟨_, List.getElem?_eq_getElem (by have := HN.out; omega)⟩
                have HyO := Lib.hid (HL.out.ok y (List.mem_of_getElem? hy))
                have HyM := Lib.hid (List.mem_of_getElem? hy)
                have Hy := Lib.hid hy
                obtain ⟨b', off', hao, hcell⟩ := (HL.out.keep (K2.out.trans hkk)).cell (by omega)
                obtain ⟨rfl, rfl⟩ : b' = b ∧ off' = off := by
                  have := Option.some.inj hao
                  injection this with h1 h2
                  exact ⟨h1.symm, h2.symm⟩
                clear hao
                obtain ⟨g0, g1, g2, g3⟩ := hcell k y hy
                obtain ⟨K3, hK3⟩ : ∃ K, K = y.1 := ⟨_, rfl⟩
                obtain ⟨T2, hT2⟩ : ∃ S, S = st y.2.1 := ⟨_, rfl⟩
                obtain ⟨T3, hT3⟩ : ∃ S, S = st y.2.2.1 := ⟨_, rfl⟩
                obtain ⟨T4, hT4⟩ : ∃ S, S = st y.2.2.2 := ⟨_, rfl⟩
                rw [← hK3] at g0
                rw [← hT2] at g1
                rw [← hT3] at g2
                rw [← hT4] at g3
                have HK3 := Lib.hid hK3; have HT2 := Lib.hid hT2; have HT3 := Lib.hid hT3; have HT4 := Lib.hid hT4
                obtain ⟨Wy, hWy⟩ : ∃ W, W = wz.alloc (.cells #[.int .i64 K3, .string T2, .string T3, .string T4] 50) := ⟨_, rfl⟩
                obtain ⟨py, hpy⟩ : ∃ b, b = wz.heap.size := ⟨_, rfl⟩
                have kWy : Kp wz Wy := by rw [hWy]; exact kp_alloc _ _
                have BWy : Hid (Blk Wy py 50 #[.int .i64 K3, .string T2, .string T3, .string T4]) := Lib.hid (by rw [hWy, hpy]; exact Blk.new _ _ _)
                have KWy := Lib.hid ((K2.out.trans hkk).trans kWy)
                have HWy := Lib.hid hWy; have Hpy := Lib.hid hpy
                have gc := BWy.out.cell 0 rfl; have gd := BWy.out.cell 1 rfl; have ge := BWy.out.cell 2 rfl; have gf := BWy.out.cell 3 rfl
                rw [hWy, hpy] at gc gd ge gf
                clear hy hcell hK3 hT2 hT3 hT4 hWy hpy kWy
                have HTY := Lib.hid (fun W => rTakes_any HyO.out W)
                simp only [vC] at HTY
                rw [← HK3.out, ← HT2.out, ← HT3.out, ← HT4.out] at HTY
                have HPX := Lib.hid (fun W => rPuts_any HxO.out W)
                simp only [vC] at HPX
                rw [← HK1.out, ← HS2.out, ← HS3.out, ← HS4.out] at HPX
                have HPY := Lib.hid (fun W => rPuts_any HyO.out W)
                simp only [vC] at HPY
                rw [← HK3.out, ← HT2.out, ← HT3.out, ← HT4.out] at HPY
                have e3 := st_inj' (tkP_ok HxO.out).1 (tkP_ok HyO.out).1
                have e6 := st_inj' HxO.out.2.1.1 HyO.out.2.1.1
                have htw := tw_eq x y
                obtain ⟨P2, hP2⟩ : ∃ S, S = st (tkP y) := ⟨_, rfl⟩
                obtain ⟨b2, hb2⟩ : ∃ b, b = (tks y).isSome := ⟨_, rfl⟩
                obtain ⟨b3, hb3⟩ : ∃ b, b = decide (tkP x = tkP y) := ⟨_, rfl⟩
                obtain ⟨b4, hb4⟩ : ∃ b, b = pts x := ⟨_, rfl⟩
                obtain ⟨b5, hb5⟩ : ∃ b, b = pts y := ⟨_, rfl⟩
                obtain ⟨b6, hb6⟩ : ∃ b, b = decide (x.2.1 = y.2.1) := ⟨_, rfl⟩
                rw [← hP2, ← hb2] at HTY
                rw [← HP.out, ← hP2, ← hb3] at e3
                rw [← HS2.out, ← HT2.out, ← hb6] at e6
                rw [← hb4] at HPX
                rw [← hb5] at HPY
                have HTW : Hid (tw x y = ((b1 && (b2 && b3)) || (b4 && (b5 && b6)))) := Lib.hid (by rw [htw, HB1.out, hb2, hb3, hb4, hb5, hb6]; rfl)
                have y0 := BW2.out.cell 0 rfl
                have KWY2 : Hid (Kp w2 Wy) := Lib.hid (hkk.trans (by rw [HWy.out]; exact kp_alloc _ _))
                have xb := BW2.out.keep KWY2.out
                clear htw hP2 hb2 hb3 hb4 hb5 hb6 y0 hkk
                go_wp2_with fail
                rw [← HWy.out, ← Hpy.out]
                refine (HTY.out _).mono ?_
                rintro e w4 ⟨rfl, hk4⟩
                have K4W2 : Hid (Kp w2 w4) := Lib.hid (KWY2.out.trans hk4)
                have HCL : Hid (∀ W, Kp w4 W → (Blk W px 50 #[.int .i64 K1, .string S2, .string S3, .string S4]) ∧ Blk W py 50 #[.int .i64 K3, .string T2, .string T3, .string T4]) := Lib.hid (fun W h => ⟨(xb.keep hk4).keep h, (BWy.out.keep hk4).keep h⟩)
                clear xb hk4 g0 g1 g2 g3 gc gd ge gf
                cases b1 with
                | false =>
                  obtain ⟨hbx, hby⟩ := HCL.out w4 (Kp.refl _)
                  have p0 := hbx.cell 0 rfl; have p1 := hbx.cell 1 rfl; have p2 := hbx.cell 2 rfl; have p3 := hbx.cell 3 rfl
                  clear hbx hby
                  go_wp2_with fail
                  refine (HPX.out _).mono ?_
                  rintro e w5 ⟨rfl, hk5⟩
                  have K5 := Lib.hid hk5
                  clear hk5 p0 p1 p2 p3
                  cases b4 with
                  | false =>
                    have KK := Lib.hid (K4W2.out.trans K5.out)
                    go_wp2_with fail
                    go_roundw
                    case rel =>
                      refine ⟨k + 1, by go_num, by omega, KK.out, Lib.hid (fun i z hi hz => ?_)⟩
                      by_cases e : i = k
                      · subst e
                        rw [Hy.out] at hz
                        obtain rfl := Option.some.inj hz
                        rw [HTW.out]; rfl
                      · exact HNO.out i z (by omega) hz
                    case measure => (first | (simp [intOf]; omega) | simp [intOf])
                  | true =>
                    obtain ⟨hbx, hby⟩ := HCL.out w5 (K5.out)
                    have r0 := hby.cell 0 rfl; have r1 := hby.cell 1 rfl; have r2 := hby.cell 2 rfl; have r3 := hby.cell 3 rfl
                    clear hbx hby
                    go_wp2_with fail
                    refine (HPY.out _).mono ?_
                    rintro e w6 ⟨rfl, hk6⟩
                    have K6 := Lib.hid (K5.out.trans hk6)
                    clear hk6 r0 r1 r2 r3
                    cases b5 with
                    | false =>
                      have KK := Lib.hid (K4W2.out.trans K6.out)
                      go_wp2_with fail
                      go_roundw
                      case rel =>
                        refine ⟨k + 1, by go_num, by omega, KK.out, Lib.hid (fun i z hi hz => ?_)⟩
                        by_cases e : i = k
                        · subst e
                          rw [Hy.out] at hz
                          obtain rfl := Option.some.inj hz
                          rw [HTW.out]; rfl
                        · exact HNO.out i z (by omega) hz
                      case measure => (first | (simp [intOf]; omega) | simp [intOf])
                    | true =>
                      obtain ⟨hbx, hby⟩ := HCL.out w6 (K6.out)
                      have p0 := hbx.cell 0 rfl; have p1 := hbx.cell 1 rfl; have p2 := hbx.cell 2 rfl; have p3 := hbx.cell 3 rfl
                      have r0 := hby.cell 0 rfl; have r1 := hby.cell 1 rfl; have r2 := hby.cell 2 rfl; have r3 := hby.cell 3 rfl
                      clear hbx hby
                      cases b6 with
                      | false =>
                        have KK := Lib.hid (K4W2.out.trans K6.out)
                        go_wp2_with fail
                        go_roundw
                        case rel =>
                          refine ⟨k + 1, by go_num, by omega, KK.out, Lib.hid (fun i z hi hz => ?_)⟩
                          by_cases e : i = k
                          · subst e
                            rw [Hy.out] at hz
                            obtain rfl := Option.some.inj hz
                            rw [HTW.out]; rfl
                          · exact HNO.out i z (by omega) hz
                        case measure => (first | (simp [intOf]; omega) | simp [intOf])
                      | true =>
                        have HEE : Hid (aplA a l = (10, [])) := Lib.hid (aE3 HOK.out HWL.out (noTw_not Hx.out hkn Hy.out (by rw [HTW.out]; rfl)))
                        have KE := Lib.hid (K2.out.trans (K4W2.out.trans K6.out))
                        have xo := (HBO.out.keep KE.out).cell 0 rfl; have fo := (HBO.out.keep KE.out).free 0
                        go_wp2_with fail
                        exact FINE.out 10 _ _ rfl rfl rfl KE.out HEE.out
                | true =>
                  cases b2 with
                  | false =>
                    obtain ⟨hbx, hby⟩ := HCL.out w4 (Kp.refl _)
                    have p0 := hbx.cell 0 rfl; have p1 := hbx.cell 1 rfl; have p2 := hbx.cell 2 rfl; have p3 := hbx.cell 3 rfl
                    clear hbx hby
                    go_wp2_with fail
                    refine (HPX.out _).mono ?_
                    rintro e w5 ⟨rfl, hk5⟩
                    have K5 := Lib.hid hk5
                    clear hk5 p0 p1 p2 p3
                    cases b4 with
                    | false =>
                      have KK := Lib.hid (K4W2.out.trans K5.out)
                      go_wp2_with fail
                      go_roundw
                      case rel =>
                        refine ⟨k + 1, by go_num, by omega, KK.out, Lib.hid (fun i z hi hz => ?_)⟩
                        by_cases e : i = k
                        · subst e
                          rw [Hy.out] at hz
                          obtain rfl := Option.some.inj hz
                          rw [HTW.out]; rfl
                        · exact HNO.out i z (by omega) hz
                      case measure => (first | (simp [intOf]; omega) | simp [intOf])
                    | true =>
                      obtain ⟨hbx, hby⟩ := HCL.out w5 (K5.out)
                      have r0 := hby.cell 0 rfl; have r1 := hby.cell 1 rfl; have r2 := hby.cell 2 rfl; have r3 := hby.cell 3 rfl
                      clear hbx hby
                      go_wp2_with fail
                      refine (HPY.out _).mono ?_
                      rintro e w6 ⟨rfl, hk6⟩
                      have K6 := Lib.hid (K5.out.trans hk6)
                      clear hk6 r0 r1 r2 r3
                      cases b5 with
                      | false =>
                        have KK := Lib.hid (K4W2.out.trans K6.out)
                        go_wp2_with fail
                        go_roundw
                        case rel =>
                          refine ⟨k + 1, by go_num, by omega, KK.out, Lib.hid (fun i z hi hz => ?_)⟩
                          by_cases e : i = k
                          · subst e
                            rw [Hy.out] at hz
                            obtain rfl := Option.some.inj hz
                            rw [HTW.out]; rfl
                          · exact HNO.out i z (by omega) hz
                        case measure => (first | (simp [intOf]; omega) | simp [intOf])
                      | true =>
                        obtain ⟨hbx, hby⟩ := HCL.out w6 (K6.out)
                        have p0 := hbx.cell 0 rfl; have p1 := hbx.cell 1 rfl; have p2 := hbx.cell 2 rfl; have p3 := hbx.cell 3 rfl
                        have r0 := hby.cell 0 rfl; have r1 := hby.cell 1 rfl; have r2 := hby.cell 2 rfl; have r3 := hby.cell 3 rfl
                        clear hbx hby
                        cases b6 with
                        | false =>
                          have KK := Lib.hid (K4W2.out.trans K6.out)
                          go_wp2_with fail
                          go_roundw
                          case rel =>
                            refine ⟨k + 1, by go_num, by omega, KK.out, Lib.hid (fun i z hi hz => ?_)⟩
                            by_cases e : i = k
                            · subst e
                              rw [Hy.out] at hz
                              obtain rfl := Option.some.inj hz
                              rw [HTW.out]; rfl
                            · exact HNO.out i z (by omega) hz
                          case measure => (first | (simp [intOf]; omega) | simp [intOf])
                        | true =>
                          have HEE : Hid (aplA a l = (10, [])) := Lib.hid (aE3 HOK.out HWL.out (noTw_not Hx.out hkn Hy.out (by rw [HTW.out]; rfl)))
                          have KE := Lib.hid (K2.out.trans (K4W2.out.trans K6.out))
                          have xo := (HBO.out.keep KE.out).cell 0 rfl; have fo := (HBO.out.keep KE.out).free 0
                          go_wp2_with fail
                          exact FINE.out 10 _ _ rfl rfl rfl KE.out HEE.out
                  | true =>
                    cases b3 with
                    | false =>
                      obtain ⟨hbx, hby⟩ := HCL.out w4 (Kp.refl _)
                      have p0 := hbx.cell 0 rfl; have p1 := hbx.cell 1 rfl; have p2 := hbx.cell 2 rfl; have p3 := hbx.cell 3 rfl
                      clear hbx hby
                      go_wp2_with fail
                      refine (HPX.out _).mono ?_
                      rintro e w5 ⟨rfl, hk5⟩
                      have K5 := Lib.hid hk5
                      clear hk5 p0 p1 p2 p3
                      cases b4 with
                      | false =>
                        have KK := Lib.hid (K4W2.out.trans K5.out)
                        go_wp2_with fail
                        go_roundw
                        case rel =>
                          refine ⟨k + 1, by go_num, by omega, KK.out, Lib.hid (fun i z hi hz => ?_)⟩
                          by_cases e : i = k
                          · subst e
                            rw [Hy.out] at hz
                            obtain rfl := Option.some.inj hz
                            rw [HTW.out]; rfl
                          · exact HNO.out i z (by omega) hz
                        case measure => (first | (simp [intOf]; omega) | simp [intOf])
                      | true =>
                        obtain ⟨hbx, hby⟩ := HCL.out w5 (K5.out)
                        have r0 := hby.cell 0 rfl; have r1 := hby.cell 1 rfl; have r2 := hby.cell 2 rfl; have r3 := hby.cell 3 rfl
                        clear hbx hby
                        go_wp2_with fail
                        refine (HPY.out _).mono ?_
                        rintro e w6 ⟨rfl, hk6⟩
                        have K6 := Lib.hid (K5.out.trans hk6)
                        clear hk6 r0 r1 r2 r3
                        cases b5 with
                        | false =>
                          have KK := Lib.hid (K4W2.out.trans K6.out)
                          go_wp2_with fail
                          go_roundw
                          case rel =>
                            refine ⟨k + 1, by go_num, by omega, KK.out, Lib.hid (fun i z hi hz => ?_)⟩
                            by_cases e : i = k
                            · subst e
                              rw [Hy.out] at hz
                              obtain rfl := Option.some.inj hz
                              rw [HTW.out]; rfl
                            · exact HNO.out i z (by omega) hz
                          case measure => (first | (simp [intOf]; omega) | simp [intOf])
                        | true =>
                          obtain ⟨hbx, hby⟩ := HCL.out w6 (K6.out)
                          have p0 := hbx.cell 0 rfl; have p1 := hbx.cell 1 rfl; have p2 := hbx.cell 2 rfl; have p3 := hbx.cell 3 rfl
                          have r0 := hby.cell 0 rfl; have r1 := hby.cell 1 rfl; have r2 := hby.cell 2 rfl; have r3 := hby.cell 3 rfl
                          clear hbx hby
                          cases b6 with
                          | false =>
                            have KK := Lib.hid (K4W2.out.trans K6.out)
                            go_wp2_with fail
                            go_roundw
                            case rel =>
                              refine ⟨k + 1, by go_num, by omega, KK.out, Lib.hid (fun i z hi hz => ?_)⟩
                              by_cases e : i = k
                              · subst e
                                rw [Hy.out] at hz
                                obtain rfl := Option.some.inj hz
                                rw [HTW.out]; rfl
                              · exact HNO.out i z (by omega) hz
                            case measure => (first | (simp [intOf]; omega) | simp [intOf])
                          | true =>
                            have HEE : Hid (aplA a l = (10, [])) := Lib.hid (aE3 HOK.out HWL.out (noTw_not Hx.out hkn Hy.out (by rw [HTW.out]; rfl)))
                            have KE := Lib.hid (K2.out.trans (K4W2.out.trans K6.out))
                            have xo := (HBO.out.keep KE.out).cell 0 rfl; have fo := (HBO.out.keep KE.out).free 0
                            go_wp2_with fail
                            exact FINE.out 10 _ _ rfl rfl rfl KE.out HEE.out
                    | true =>
                      have HEE : Hid (aplA a l = (10, [])) := Lib.hid (aE3 HOK.out HWL.out (noTw_not Hx.out hkn Hy.out (by rw [HTW.out]; rfl)))
                      have KE := Lib.hid (K2.out.trans (K4W2.out))
                      have xo := (HBO.out.keep KE.out).cell 0 rfl; have fo := (HBO.out.keep KE.out).free 0
                      go_wp2_with fail
                      exact FINE.out 10 _ _ rfl rfl rfl KE.out HEE.out
              · have j3 : (j : Int) ≤ (k : Int) := by omega
                have j3' : decide (k < j) = false := decide_eq_false hkn
                have HK5 := Lib.hid (K2.out.trans hkk)
                clear hkk hkj hkn
                go_wp2_with fail
                go_roundw
                case rel => exact ⟨j + 1, by go_num, by omega, HK5.out, Lib.hid ((noTw_snoc Hx.out).2 ⟨HNT.out, fun i y hi hy => HNO.out i y (by omega) hy⟩)⟩
                case measure => (first | (simp [intOf]; omega) | simp [intOf])
          · have j1 : (n : Int) ≤ (j : Int) := by omega
            have j1' : decide (j < n) = false := decide_eq_false hjn
            have HNTL : Hid (noTw l) := Lib.hid (by
              have h := HNT.out
              rw [List.take_of_length_le (by have := HN.out; omega)] at h
              exact h)
            have HKB := Lib.hid hk
            clear hk hj hjn HNT HKA
            go_wp2_with fail
            go_loopw [16, 106] (fun t i wr => ∃ (j : Nat) (ta : Option Addr) (tn tc : Nat), i = .int .i64 (j : Nat) ∧ t = .slice ta tn tc ∧ j ≤ n ∧ OwT W0 wr (.slice ta tn tc) (tkL (l.take j)) ∧ Hid (∀ (i : Nat) (x : Ch), i < j → l[i]? = some x → (tks x).all (fun p => hasP a p) = true)) (fun _ i _ => n - (intOf i).toNat)
            case atStart => exact ⟨0, none, 0, 0, rfl, rfl, Nat.zero_le _, (OwT.start wy).base HKB.out, Lib.hid (fun i x hi => by omega)⟩
            case round =>
              obtain ⟨j, ta, tn, tc, rfl, rfl, hj, ht, HAL⟩ := hrel
              clear HKB
              rename World => wy
              have HT := Lib.hid ht
              by_cases hjn : j < n
              · have j1 : (j : Int) < (n : Int) := by omega
                have hk := ht.kp
                obtain ⟨x, hx⟩ : ∃ x, l[j]? = some x := ⟨_, List.getElem?_eq_getElem (by have := HN.out; omega)⟩
                have HxO := Lib.hid (HL.out.ok x (List.mem_of_getElem? hx))
                have HxM := Lib.hid (List.mem_of_getElem? hx)
                have Hx := Lib.hid hx
                obtain ⟨b, off, hao, hcell⟩ := (HL.out.keep (hk)).cell (by omega)
                subst hao
                obtain ⟨d0, d1, d2, d3⟩ := hcell j x hx
                obtain ⟨K1, hK1⟩ : ∃ K, K = x.1 := ⟨_, rfl⟩
                obtain ⟨S2, hS2⟩ : ∃ S, S = st x.2.1 := ⟨_, rfl⟩
                obtain ⟨S3, hS3⟩ : ∃ S, S = st x.2.2.1 := ⟨_, rfl⟩
                obtain ⟨S4, hS4⟩ : ∃ S, S = st x.2.2.2 := ⟨_, rfl⟩
                rw [← hK1] at d0
                rw [← hS2] at d1
                rw [← hS3] at d2
                rw [← hS4] at d3
                have HK1 := Lib.hid hK1; have HS2 := Lib.hid hS2; have HS3 := Lib.hid hS3; have HS4 := Lib.hid hS4
                obtain ⟨Wx, hWx⟩ : ∃ W, W = wy.alloc (.cells #[.int .i64 K1, .string S2, .string S3, .string S4] 50) := ⟨_, rfl⟩
                obtain ⟨px, hpx⟩ : ∃ b, b = wy.heap.size := ⟨_, rfl⟩
                have kWx : Kp wy Wx := by rw [hWx]; exact kp_alloc _ _
                have BWx : Hid (Blk Wx px 50 #[.int .i64 K1, .string S2, .string S3, .string S4]) := Lib.hid (by rw [hWx, hpx]; exact Blk.new _ _ _)
                have KWx := Lib.hid ((hk).trans kWx)
                have HWx := Lib.hid hWx; have Hpx := Lib.hid hpx
                have dc := BWx.out.cell 0 rfl; have dd := BWx.out.cell 1 rfl; have de := BWx.out.cell 2 rfl; have df := BWx.out.cell 3 rfl
                rw [hWx, hpx] at dc dd de df
                clear hx hcell hK1 hS2 hS3 hS4 hWx hpx kWx
                have HTX := Lib.hid (fun W => rTakes_any HxO.out W)
                simp only [vC] at HTX
                rw [← HK1.out, ← HS2.out, ← HS3.out, ← HS4.out] at HTX
                have htk := tkL_snoc Hx.out
                have HTL : Hid ((tkL (l.take j)).length ≤ 1000000) := Lib.hid (by have h1 := tkL_len (l.take j); rw [List.length_take] at h1; omega)
                have HTK2 : Hid (Kp wy Wx) := Lib.hid (by rw [HWx.out]; exact kp_alloc _ _)
                cases htx : tks x with
                | none =>
                  have HNX : Hid (tks x = none) := Lib.hid htx
                  have e1 : tkP x = [] := by unfold tkP; rw [htx]; rfl
                  rw [e1, htx] at HTX
                  rw [htx] at htk
                  rw [show (none : Option (List Nat)).isSome = false from rfl] at HTX
                  obtain ⟨P, hP⟩ : ∃ S, S = st ([] : List Nat) := ⟨_, rfl⟩
                  rw [← hP] at HTX
                  have HTC := Lib.hid htk
                  clear htk htx e1 hP hk hjn ht
                  go_wp2_with fail
                  rw [← HWx.out, ← Hpx.out]
                  refine (HTX.out _).mono ?_
                  rintro e w2 ⟨rfl, hk2⟩
                  have HO2 : Hid (OwT W0 w2 (.slice ta tn tc) (tkL (l.take (j + 1)))) := Lib.hid (by rw [HTC.out, Option.toList_none, List.append_nil]; exact (HT.out.keep HTK2.out).keep hk2)
                  clear hk2
                  clear d0 d1 d2 d3 dc dd de df
                  go_wp2_with fail
                  go_roundw
                  case rel =>
                    refine ⟨j + 1, _, _, _, by go_num, rfl, by omega, HO2.out, Lib.hid (fun i z hi hz => ?_)⟩
                    by_cases e : i = j
                    · subst e
                      rw [Hx.out] at hz
                      obtain rfl := Option.some.inj hz
                      rw [HNX.out]; rfl
                    · exact HAL.out i z (by omega) hz
                  case measure => (first | (simp [intOf]; omega) | simp [intOf])
                | some p =>
                  have HNX : Hid (tks x = some p) := Lib.hid htx
                  have e1 : tkP x = p := by unfold tkP; rw [htx]; rfl
                  have hpo := tkP_ok HxO.out
                  rw [e1] at hpo
                  rw [e1, htx] at HTX
                  rw [htx] at htk
                  rw [show (some p).isSome = true from rfl] at HTX
                  have HFD := Lib.hid (fun (W : World) (h : Kp W0 W) => rFind_any (HA.out.keep h) hpo.1)
                  rw [find_snd HOK.out] at HFD
                  obtain ⟨P, hP⟩ : ∃ S, S = st p := ⟨_, rfl⟩
                  obtain ⟨F1, hF1⟩ : ∃ S, S = st (findF a p).1 := ⟨_, rfl⟩
                  obtain ⟨q, hq⟩ : ∃ q, q = hasP a p := ⟨_, rfl⟩
                  rw [← hP] at HTX
                  rw [← hP, ← hF1, ← hq] at HFD
                  have HTC := Lib.hid htk; have HPLT := Lib.hid hpo.1; have HP := Lib.hid hP; have HQQ := Lib.hid hq
                  clear htk htx e1 hP hF1 hq hk hjn ht hpo
                  go_wp2_with fail
                  rw [← HWx.out, ← Hpx.out]
                  refine (HTX.out _).mono ?_
                  rintro e w2 ⟨rfl, hk2⟩
                  have K2 := Lib.hid (KWx.out.trans hk2)
                  have HO2 := Lib.hid ((HT.out.keep HTK2.out).keep hk2)
                  have x0 := (HBR.out.keep K2.out).cell 0 rfl
                  clear hk2
                  clear d0 d1 d2 d3 dc dd de df
                  go_wp2_with fail
                  refine (HFD.out w2 K2.out).mono ?_
                  rintro e w3 ⟨rfl, hk3⟩
                  have K3 := Lib.hid (K2.out.trans hk3)
                  have HO3 := Lib.hid (HO2.out.keep hk3)
                  clear hk3 x0
                  cases q with
                  | false =>
                    have HEE : Hid (aplA a l = (18, [])) := Lib.hid (aE4 HOK.out HWL.out HNTL.out HxM.out HNX.out HQQ.out.symm)
                    have xo := (HBO.out.keep K3.out).cell 0 rfl; have fo := (HBO.out.keep K3.out).free 0
                    go_wp2_with fail
                    exact FINE.out 18 _ _ rfl rfl rfl K3.out HEE.out
                  | true =>
                    have HPO2 : Hid (TxOk p) := Lib.hid ⟨HPLT.out, by
                      obtain ⟨f, hf, e⟩ := (hasP_iff HOK.out).1 HQQ.out.symm
                      have h := path_len (chkL_mem (chk_ok HOK.out).2 f hf).1
                      rw [e] at h
                      omega⟩
                    obtain ⟨W4, hW4⟩ : ∃ W, W = w3.alloc (.cells #[.string P] 9) := ⟨_, rfl⟩
                    have HO4 : Hid (OwT W0 W4 (.slice ta tn tc) (tkL (l.take j))) := Lib.hid (by rw [hW4]; exact HO3.out.keep (kp_alloc _ _))
                    have HB4 : Hid (Blk W4 w3.heap.size 9 #[.string (st p)]) := Lib.hid (by rw [hW4, ← HP.out]; exact Blk.new _ _ _)
                    have HW4 := Lib.hid hW4
                    clear hW4
                    go_wp2_with (at_builtin; rw [← HW4.out]; refine wpList_tx rfl (.tmp 126) (.tmp 128) rfl (.slice ta tn tc) rfl HO4.out HTL.out p HPO2.out w3.heap.size rfl HB4.out ?_)
                    intro v' w5 ho hg hb
                    obtain ⟨⟨o', l', c', hv'⟩, -⟩ := row_frc ho.owns
                    subst hv'
                    have HO5 : Hid (OwT W0 w5 (.slice o' l' c') (tkL (l.take (j + 1)))) := Lib.hid (by rw [HTC.out]; exact ho)
                    clear ho hg hb
                    go_wp2_with fail
                    go_roundw
                    case rel =>
                      refine ⟨j + 1, _, _, _, by go_num, rfl, by omega, HO5.out, Lib.hid (fun i z hi hz => ?_)⟩
                      by_cases e : i = j
                      · subst e
                        rw [Hx.out] at hz
                        obtain rfl := Option.some.inj hz
                        rw [HNX.out]; exact HQQ.out.symm
                      · exact HAL.out i z (by omega) hz
                    case measure => (first | (simp [intOf]; omega) | simp [intOf])
              · have j1 : (n : Int) ≤ (j : Int) := by omega
                have j1' : decide (j < n) = false := decide_eq_false hjn
                have HAT : Hid (∀ x ∈ l, (tks x).all (fun p => hasP a p) = true) := Lib.hid (fun x hx => by
                  obtain ⟨i, hi⟩ := List.mem_iff_getElem?.1 hx
                  exact HAL.out i x (by have := (List.getElem?_eq_some_iff.1 hi).1; have := HN.out; omega) hi)
                have htw := ht.tw
                rw [List.take_of_length_le (by have := HN.out; omega)] at htw
                have HTT := Lib.hid htw; have HKB := Lib.hid ht.kp
                clear ht HT hj hjn HAL htw
                rename World => W5
                obtain ⟨X5, hX5⟩ : ∃ W, W = W5.alloc (.cells #[.slice none 0 0] 25) := ⟨_, rfl⟩
                obtain ⟨pq, hpq⟩ : ∃ b, b = W5.heap.size := ⟨_, rfl⟩
                have kx5 : Kp W5 X5 := by rw [hX5]; exact kp_alloc _ _
                have HS5 : Hid (ApS W5 X5 pq (.slice none 0 0) []) := Lib.hid ⟨(OwF.start W5).keep kx5, by rw [hX5, hpq]; exact Blk.new _ _ _, fun b hb => by simp [Value.ownBlock] at hb, by omega⟩
                have HTN : Hid (tn = (tkL l).length) := Lib.hid HTT.out.len
                have HX5 := Lib.hid hX5; have HPQ := Lib.hid hpq
                have htc0 : tn ≤ tc := by
                  obtain ⟨_, _, e, h, -, -⟩ := HTT.out.open3
                  simp only [Value.slice.injEq] at e
                  omega
                have i5 : (tn : Int) ≤ (tc : Int) := by omega
                have i6 : (tn : Int) ≤ (200 : Int) := by have h1 := tkL_len l; have h2 := HTN.out; have h3 := HN.out; omega
                have x0 := (HBR.out.keep (HKB.out.trans kx5)).cell 0 rfl
                rw [hX5] at x0
                clear hX5 hpq kx5 htc0
                go_wp2_with fail
                rw [← HX5.out, ← HPQ.out]
                clear x0
                go_loopw [134] (fun i wr => ∃ (j : Nat) (v1 : Option Addr) (v2 v3 : Nat), i = .int .i64 (j : Nat) ∧ j ≤ m ∧ ApS W5 wr pq (.slice v1 v2 v3) (left (a.take j) l)) (fun i _ => m - (intOf i).toNat)
                case atStart => exact ⟨0, none, 0, 0, rfl, Nat.zero_le _, HS5.out⟩
                case round =>
                  obtain ⟨j, v1, v2, v3, rfl, hj, hs⟩ := hrel
                  rename World => wy
                  have HS := Lib.hid hs
                  have hk := hs.kp
                  by_cases hjm : j < m
                  · obtain ⟨f, hf⟩ : ∃ f, a[j]? = some f := ⟨_, List.getElem?_eq_getElem (by have := HMA.out; omega)⟩
                    have HF := Lib.hid hf
                    have HFO : Hid (FlOk f) := Lib.hid ⟨HA.out.lt f (List.mem_of_getElem? hf), HA.out.sm f (List.mem_of_getElem? hf)⟩
                    obtain ⟨b, off, haa, hcell⟩ := (HA.out.keep (HKB.out.trans hk)).cell (by omega)
                    subst haa
                    obtain ⟨c0, c1⟩ := hcell j f hf
                    obtain ⟨T1, hT1⟩ : ∃ S, S = st f.1 := ⟨_, rfl⟩
                    obtain ⟨T2, hT2⟩ : ∃ S, S = st f.2 := ⟨_, rfl⟩
                    rw [← hT1] at c0
                    rw [← hT2] at c1
                    obtain ⟨Wf, hWf⟩ : ∃ W, W = wy.alloc (.cells #[.string T1, .string T2] 53) := ⟨_, rfl⟩
                    obtain ⟨pf, hpf⟩ : ∃ b, b = wy.heap.size := ⟨_, rfl⟩
                    have kf : Kp wy Wf := by rw [hWf]; exact kp_alloc _ _
                    have BFF : Hid (Blk Wf pf 53 #[.string T1, .string T2]) := Lib.hid (by rw [hWf, hpf]; exact Blk.new _ _ _)
                    have HKF2 := Lib.hid kf
                    have HTW := Lib.hid (HTT.out.keep (hk.trans kf))
                    have HWf := Lib.hid hWf; have HPF := Lib.hid hpf; have HT1 := Lib.hid hT1; have HT2 := Lib.hid hT2
                    have j1 : (j : Int) < (m : Int) := by omega
                    clear hf hcell hT1 hT2 hWf hpf kf hk hs
                    go_wp2_with fail
                    rw [← HWf.out, ← HPF.out]
                    clear c0 c1
                    go_loopw [26, 140] (fun t i wr => ∃ (k : Nat), i = .int .i64 (k : Nat) ∧ t = .bool (lfB (tkL l) f k) ∧ k ≤ tn ∧ Kp Wf wr) (fun _ i _ => tn - (intOf i).toNat)
                    case atStart => exact ⟨0, rfl, rfl, Nat.zero_le _, Kp.refl _⟩
                    case round =>
                      obtain ⟨k, rfl, rfl, hk6, hkk⟩ := hrel
                      rename World => wz
                      obtain ⟨t, ht⟩ : ∃ t, t = lfB (tkL l) f k := ⟨_, rfl⟩
                      rw [← ht]
                      have HTT2 := Lib.hid ht
                      have HKZ := Lib.hid hkk
                      clear ht
                      by_cases hkn : k < tn
                      · obtain ⟨p, hp⟩ : ∃ p, (tkL l)[k]? = some p := ⟨_, List.getElem?_eq_getElem (by have := HTN.out; omega)⟩
                        obtain ⟨tb, toff, hta, htc⟩ := (HTW.out.keep hkk).cell (by omega)
                        subst hta
                        have c4 := htc k p hp
                        have e1 := st_inj' (HTW.out.ok p (List.mem_of_getElem? hp)).1 HFO.out.1.1
                        obtain ⟨P, hP⟩ : ∃ S, S = st p := ⟨_, rfl⟩
                        rw [← hP] at c4 e1
                        rw [← HT1.out] at e1
                        have hstep := lfB_snoc (f := f) hp
                        rw [← HTT2.out] at hstep
                        obtain ⟨q, hq⟩ : ∃ q, q = decide (p = f.1) := ⟨_, rfl⟩
                        rw [← hq] at e1 hstep
                        have HST := Lib.hid hstep
                        have y0 := (BFF.out.keep hkk).cell 0 rfl
                        have j3 : (k : Int) < (tn : Int) := by omega
                        clear hp htc hP hstep hq hkk hk6
                        cases t with
                        | false =>
                          clear e1
                          go_wp2_with fail
                          go_roundw
                          case rel => exact ⟨k + 1, by go_num, by rw [HST.out]; rfl, by omega, HKZ.out⟩
                          case measure => (first | (simp [intOf]; omega) | simp [intOf])
                        | true =>
                          cases q
                          all_goals
                            go_wp2_with fail
                            go_roundw
                            case rel => exact ⟨k + 1, by go_num, by rw [HST.out]; rfl, by omega, HKZ.out⟩
                            case measure => (first | (simp [intOf]; omega) | simp [intOf])
                      · have j3 : (tn : Int) ≤ (k : Int) := by omega
                        have j3' : decide (k < tn) = false := decide_eq_false hkn
                        have hla := left_snoc (l := l) HF.out
                        rw [← lfB_all (k := k) (by have := HTN.out; omega), ← HTT2.out] at hla
                        have HLA := Lib.hid hla
                        have HSZ := Lib.hid (HS.out.keep (HKF2.out.trans hkk))
                        clear hk6 hkk hkn hla HTT2
                        cases t with
                        | false =>
                          go_wp2_with fail
                          go_roundw
                          case rel => exact ⟨j + 1, _, _, _, by go_num, by omega, by rw [HLA.out, if_neg (by simp), List.append_nil]; exact HSZ.out⟩
                          case measure => (first | (simp [intOf]; omega) | simp [intOf])
                        | true =>
                          obtain ⟨W8, hW8⟩ : ∃ W, W = wz.alloc (.cells #[.string T1, .string T2] 53) := ⟨_, rfl⟩
                          have k8 : Kp wz W8 := by rw [hW8]; exact kp_alloc _ _
                          have HS8 := Lib.hid (HSZ.out.keep k8)
                          have HB8 : Hid (Blk W8 wz.heap.size 53 #[.string (st f.1), .string (st f.2)]) := Lib.hid (by rw [hW8, ← HT1.out, ← HT2.out]; exact Blk.new _ _ _)
                          have HW8 := Lib.hid hW8
                          have x0 := HSZ.out.bq.cell 0 rfl
                          have y0 := (BFF.out.keep HKZ.out).cell 0 rfl; have y1 := (BFF.out.keep HKZ.out).cell 1 rfl
                          have HLEN : Hid ((left (a.take j) l).length ≤ 1000000) := Lib.hid (by have h1 := left_len (a.take j) l; rw [List.length_take] at h1; have h2 := HMA.out; have h3 := HM64.out; omega)
                          clear hW8 k8
                          go_wp2_with (at_builtin; rw [← HW8.out]; refine wpList_fl rfl (.tmp 154) (.tmp 156) rfl (.slice v1 v2 v3) rfl HS8.out.ow HLEN.out f HFO.out wz.heap.size rfl HB8.out ?_)
                          intro v' w9 ho hg hb
                          obtain ⟨⟨o', l', c', hv'⟩, -⟩ := row_form ho.owns
                          subst hv'
                          have HS9 := Lib.hid (HS8.out.app ho hg hb)
                          have bq9 : Blk w9 pq 25 #[.slice v1 v2 v3] := HS8.out.bq.by hg (fun e => HS8.out.ne _ e.symm rfl)
                          have x1 := bq9.cell 0 rfl; have f1 := bq9.free 0
                          clear ho hg hb bq9 x0 y0 y1
                          go_wp2_with fail
                          go_roundw
                          case rel => exact ⟨j + 1, _, _, _, by go_num, by omega, by rw [HLA.out]; exact HS9.out⟩
                          case measure => (first | (simp [intOf]; omega) | simp [intOf])
                  · have j1 : (m : Int) ≤ (j : Int) := by omega
                    have j1' : decide (j < m) = false := decide_eq_false hjm
                    have hs2 := hs
                    rw [left_all (by have := HMA.out; omega)] at hs2
                    have HS7 := Lib.hid hs2
                    have HK7 := Lib.hid (HKB.out.trans hk)
                    clear hs hs2 hk hj hjm HS HS5 HX5 HTT HTN
                    rename World => W7
                    have HV2 : Hid (v2 = (left a l).length) := Lib.hid (by
                      obtain ⟨_, _, e, -, -, -⟩ := HS7.out.ow.rw.open3
                      simp only [Value.slice.injEq] at e
                      exact e.2.1)
                    have hv23 : v2 ≤ v3 := by
                      obtain ⟨_, _, e, h, -, -⟩ := HS7.out.ow.rw.open3
                      simp only [Value.slice.injEq] at e
                      omega
                    have HRW7 := Lib.hid HS7.out.ow.rw
                    have i7 : (v2 : Int) ≤ (v3 : Int) := by omega
                    have i8 : (v2 : Int) ≤ (64 : Int) := by have h1 := left_len a l; have h2 := HV2.out; have h3 := HM64.out; have h4 := HMA.out; omega
                    clear hv23
                    go_wp2_with fail
                    go_loopw [162] (fun i wr => ∃ (j : Nat), i = .int .i64 (j : Nat) ∧ j ≤ n ∧ Kp W7 wr ∧ Hid (∀ (i : Nat) (x : Ch), i < j → l[i]? = some x → pts x = true → ¬ has (left a l) x.2.1)) (fun i _ => n - (intOf i).toNat)
                    case atStart => exact ⟨0, rfl, Nat.zero_le _, Kp.refl _, Lib.hid (fun i x hi => by omega)⟩
                    case round =>
                      obtain ⟨j, rfl, hj, hk, HAL⟩ := hrel
                      rename World => wy
                      by_cases hjn : j < n
                      · have j1 : (j : Int) < (n : Int) := by omega
                        have HKY := Lib.hid hk
                        obtain ⟨x, hx⟩ : ∃ x, l[j]? = some x := ⟨_, List.getElem?_eq_getElem (by have := HN.out; omega)⟩
                        have HxO := Lib.hid (HL.out.ok x (List.mem_of_getElem? hx))
                        have HxM := Lib.hid (List.mem_of_getElem? hx)
                        have Hx := Lib.hid hx
                        obtain ⟨b, off, hao, hcell⟩ := (HL.out.keep (HK7.out.trans hk)).cell (by omega)
                        subst hao
                        obtain ⟨d0, d1, d2, d3⟩ := hcell j x hx
                        obtain ⟨K1, hK1⟩ : ∃ K, K = x.1 := ⟨_, rfl⟩
                        obtain ⟨S2, hS2⟩ : ∃ S, S = st x.2.1 := ⟨_, rfl⟩
                        obtain ⟨S3, hS3⟩ : ∃ S, S = st x.2.2.1 := ⟨_, rfl⟩
                        obtain ⟨S4, hS4⟩ : ∃ S, S = st x.2.2.2 := ⟨_, rfl⟩
                        rw [← hK1] at d0
                        rw [← hS2] at d1
                        rw [← hS3] at d2
                        rw [← hS4] at d3
                        have HK1 := Lib.hid hK1; have HS2 := Lib.hid hS2; have HS3 := Lib.hid hS3; have HS4 := Lib.hid hS4
                        obtain ⟨Wx, hWx⟩ : ∃ W, W = wy.alloc (.cells #[.int .i64 K1, .string S2, .string S3, .string S4] 50) := ⟨_, rfl⟩
                        obtain ⟨px, hpx⟩ : ∃ b, b = wy.heap.size := ⟨_, rfl⟩
                        have kWx : Kp wy Wx := by rw [hWx]; exact kp_alloc _ _
                        have BWx : Hid (Blk Wx px 50 #[.int .i64 K1, .string S2, .string S3, .string S4]) := Lib.hid (by rw [hWx, hpx]; exact Blk.new _ _ _)
                        have KWx := Lib.hid ((HK7.out.trans hk).trans kWx)
                        have HWx := Lib.hid hWx; have Hpx := Lib.hid hpx
                        have dc := BWx.out.cell 0 rfl; have dd := BWx.out.cell 1 rfl; have de := BWx.out.cell 2 rfl; have df := BWx.out.cell 3 rfl
                        rw [hWx, hpx] at dc dd de df
                        clear hx hcell hK1 hS2 hS3 hS4 hWx hpx kWx
                        have HPX := Lib.hid (fun W => rPuts_any HxO.out W)
                        simp only [vC] at HPX
                        rw [← HK1.out, ← HS2.out, ← HS3.out, ← HS4.out] at HPX
                        have HTK2 : Hid (Kp wy Wx) := Lib.hid (by rw [HWx.out]; exact kp_alloc _ _)
                        obtain ⟨q, hq⟩ : ∃ q, q = pts x := ⟨_, rfl⟩
                        rw [← hq] at HPX
                        have HQQ := Lib.hid hq
                        clear hq hk hjn
                        go_wp2_with fail
                        rw [← HWx.out, ← Hpx.out]
                        refine (HPX.out _).mono ?_
                        rintro e w2 ⟨rfl, hk2⟩
                        have K2 := Lib.hid (KWx.out.trans hk2)
                        have K72 := Lib.hid ((HKY.out.trans HTK2.out).trans hk2)
                        have BW2 := Lib.hid (BWx.out.keep hk2)
                        clear hk2
                        clear d0 d1 d2 d3 dc dd de df
                        cases q with
                        | false =>
                          go_wp2_with fail
                          go_roundw
                          case rel =>
                            refine ⟨j + 1, by go_num, by omega, K72.out, Lib.hid (fun i z hi hz => ?_)⟩
                            by_cases e : i = j
                            · subst e
                              rw [Hx.out] at hz
                              obtain rfl := Option.some.inj hz
                              intro h; rw [← HQQ.out] at h; cases h
                            · exact HAL.out i z (by omega) hz
                          case measure => (first | (simp [intOf]; omega) | simp [intOf])
                        | true =>
                          have x0 := (HS7.out.keep K72.out).bq.cell 0 rfl
                          go_wp2_with fail
                          clear x0
                          go_loopw [172] (fun i wr => ∃ k : Nat, i = .int .i64 (k : Nat) ∧ k ≤ v2 ∧ Kp w2 wr ∧ Hid (∀ (i : Nat) (f : Fl), i < k → (left a l)[i]? = some f → f.1 ≠ x.2.1)) (fun i _ => v2 - (intOf i).toNat)
                          case atStart => exact ⟨0, rfl, Nat.zero_le _, Kp.refl _, Lib.hid (fun i y hi => by omega)⟩
                          case round =>
                            obtain ⟨k, rfl, hk8, hkk, HNO⟩ := hrel
                            rename World => wz
                            have HKZ := Lib.hid hkk
                            have y1 := (BW2.out.keep hkk).cell 1 rfl
                            by_cases hkn : k < v2
                            · obtain ⟨f, hf⟩ : ∃ f, (left a l)[k]? = some f := ⟨_, List.getElem?_eq_getElem (by have := HV2.out; omega)⟩
                              have hfm := List.mem_of_getElem? hf
                              have e1 := st_inj' (HRW7.out.lt f hfm).1 HxO.out.2.1.1
                              obtain ⟨gb, go_, hga, hgc⟩ := (HRW7.out.keep (K72.out.trans hkk)).cell (by omega)
                              subst hga
                              obtain ⟨c0, c1⟩ := hgc k f hf
                              obtain ⟨U1, hU1⟩ : ∃ S, S = st f.1 := ⟨_, rfl⟩
                              obtain ⟨U2, hU2⟩ : ∃ S, S = st f.2 := ⟨_, rfl⟩
                              rw [← hU1] at c0 e1
                              rw [← hU2] at c1
                              rw [← HS2.out] at e1
                              obtain ⟨q, hq⟩ : ∃ q, q = decide (f.1 = x.2.1) := ⟨_, rfl⟩
                              rw [← hq] at e1
                              have HF := Lib.hid hf; have HQ2 := Lib.hid hq
                              obtain ⟨Wu, hWu⟩ : ∃ W, W = wz.alloc (.cells #[.string U1, .string U2] 53) := ⟨_, rfl⟩
                              have ku : Kp wz Wu := by rw [hWu]; exact kp_alloc _ _
                              have KU := Lib.hid (hkk.trans ku)
                              have bu : Blk Wu wz.heap.size 53 #[.string U1, .string U2] := by rw [hWu]; exact Blk.new _ _ _
                              have x0 := bu.cell 0 rfl
                              have y1 := (BW2.out.keep KU.out).cell 1 rfl
                              rw [hWu] at x0 y1
                              have KE := Lib.hid (K2.out.trans KU.out)
                              have j3 : (k : Int) < (v2 : Int) := by omega
                              have HWu := Lib.hid hWu
                              clear hfm hf hgc hU1 hU2 hq hWu ku bu hkk hk8
                              cases q with
                              | true =>
                                have HEE : Hid (aplA a l = (19, [])) := Lib.hid (aE5 HOK.out HWL.out HNTL.out HAT.out HxM.out HQQ.out.symm ⟨f, List.mem_of_getElem? HF.out, of_decide_eq_true HQ2.out.symm⟩)
                                have xo := (HBO.out.keep KE.out).cell 0 rfl; have fo := (HBO.out.keep KE.out).free 0
                                rw [HWu.out] at xo fo
                                go_wp2_with fail
                                rw [← HWu.out]
                                exact FINE.out 19 _ _ rfl rfl rfl KE.out HEE.out
                              | false =>
                                go_wp2_with fail
                                rw [← HWu.out]
                                go_roundw
                                case rel =>
                                  refine ⟨k + 1, by go_num, by omega, KU.out, Lib.hid (fun i z hi hz => ?_)⟩
                                  by_cases e : i = k
                                  · subst e
                                    rw [HF.out] at hz
                                    obtain rfl := Option.some.inj hz
                                    exact of_decide_eq_false HQ2.out.symm
                                  · exact HNO.out i z (by omega) hz
                                case measure => (first | (simp [intOf]; omega) | simp [intOf])
                            · have j3 : (v2 : Int) ≤ (k : Int) := by omega
                              have j3' : decide (k < v2) = false := decide_eq_false hkn
                              have HKJ := Lib.hid (K72.out.trans hkk)
                              have HNH : Hid (¬ has (left a l) x.2.1) := Lib.hid (by
                                rintro ⟨f, hf, e⟩
                                obtain ⟨i, hi⟩ := List.mem_iff_getElem?.1 hf
                                exact HNO.out i f (by have := (List.getElem?_eq_some_iff.1 hi).1; have := HV2.out; omega) hi e)
                              clear hk8 hkk hkn
                              go_wp2_with fail
                              go_roundw
                              case rel =>
                                refine ⟨j + 1, by go_num, by omega, HKJ.out, Lib.hid (fun i z hi hz => ?_)⟩
                                by_cases e : i = j
                                · subst e
                                  rw [Hx.out] at hz
                                  obtain rfl := Option.some.inj hz
                                  exact fun _ => HNH.out
                                · exact HAL.out i z (by omega) hz
                              case measure => (first | (simp [intOf]; omega) | simp [intOf])
                      · have j1 : (n : Int) ≤ (j : Int) := by omega
                        have j1' : decide (j < n) = false := decide_eq_false hjn
                        have HNH : Hid (∀ x ∈ l, pts x = true → ¬ has (left a l) x.2.1) := Lib.hid (fun x hx => by
                          obtain ⟨i, hi⟩ := List.mem_iff_getElem?.1 hx
                          exact HAL.out i x (by have := (List.getElem?_eq_some_iff.1 hi).1; have := HN.out; omega) hi)
                        have HS9 := Lib.hid (HS7.out.keep hk)
                        clear hk hj hjn HAL HS7 HRW7
                        go_wp2_with fail
                        go_loopw [186] (fun i wr => ∃ (j : Nat) (u1 : Option Addr) (u2 u3 : Nat), i = .int .i64 (j : Nat) ∧ j ≤ n ∧ ApS W5 wr pq (.slice u1 u2 u3) (outk a l j) ∧ Hid (∀ (i : Nat) (x : Ch), i < j → l[i]? = some x → pts x = true → pathB x.2.1 = true)) (fun i _ => n - (intOf i).toNat)
                        case atStart => exact ⟨0, _, _, _, rfl, Nat.zero_le _, HS9.out, Lib.hid (fun i x hi => by omega)⟩
                        case round =>
                          obtain ⟨j, u1, u2, u3, rfl, hj, hs, HAL⟩ := hrel
                          rename World => wy
                          have HSY := Lib.hid hs
                          have hk := HKB.out.trans hs.kp
                          have HU2 : Hid (u2 = (outk a l j).length) := Lib.hid (by
                            obtain ⟨_, _, e, -, -, -⟩ := hs.ow.rw.open3
                            simp only [Value.slice.injEq] at e
                            exact e.2.1)
                          have HU2L : Hid (u2 ≤ 264) := Lib.hid (by have h1 := outk_len a l j; have h2 := HU2.out; have h3 := HM64.out; have h4 := HMA.out; omega)
                          have hu23 : u2 ≤ u3 := by
                            obtain ⟨_, _, e, h, -, -⟩ := hs.ow.rw.open3
                            simp only [Value.slice.injEq] at e
                            omega
                          have i9 : (u2 : Int) ≤ (u3 : Int) := by omega
                          have i10 : (u2 : Int) ≤ 264 := by have := HU2L.out; omega
                          clear hu23
                          by_cases hjn : j < n
                          · have j1 : (j : Int) < (n : Int) := by omega
                            have HPQX : Hid (pq < wy.heap.size) := Lib.hid hs.bq.lt
                            have HLN : Hid ((outk a l j).length ≤ 1000000) := Lib.hid (by have := HU2.out; have := HU2L.out; omega)
                            obtain ⟨x, hx⟩ : ∃ x, l[j]? = some x := ⟨_, List.getElem?_eq_getElem (by have := HN.out; omega)⟩
                            have HxO := Lib.hid (HL.out.ok x (List.mem_of_getElem? hx))
                            have HxM := Lib.hid (List.mem_of_getElem? hx)
                            have Hx := Lib.hid hx
                            obtain ⟨b, off, hao, hcell⟩ := (HL.out.keep (hk)).cell (by omega)
                            subst hao
                            obtain ⟨d0, d1, d2, d3⟩ := hcell j x hx
                            obtain ⟨K1, hK1⟩ : ∃ K, K = x.1 := ⟨_, rfl⟩
                            obtain ⟨S2, hS2⟩ : ∃ S, S = st x.2.1 := ⟨_, rfl⟩
                            obtain ⟨S3, hS3⟩ : ∃ S, S = st x.2.2.1 := ⟨_, rfl⟩
                            obtain ⟨S4, hS4⟩ : ∃ S, S = st x.2.2.2 := ⟨_, rfl⟩
                            rw [← hK1] at d0
                            rw [← hS2] at d1
                            rw [← hS3] at d2
                            rw [← hS4] at d3
                            have HK1 := Lib.hid hK1; have HS2 := Lib.hid hS2; have HS3 := Lib.hid hS3; have HS4 := Lib.hid hS4
                            obtain ⟨Wx, hWx⟩ : ∃ W, W = wy.alloc (.cells #[.int .i64 K1, .string S2, .string S3, .string S4] 50) := ⟨_, rfl⟩
                            obtain ⟨px, hpx⟩ : ∃ b, b = wy.heap.size := ⟨_, rfl⟩
                            have kWx : Kp wy Wx := by rw [hWx]; exact kp_alloc _ _
                            have BWx : Hid (Blk Wx px 50 #[.int .i64 K1, .string S2, .string S3, .string S4]) := Lib.hid (by rw [hWx, hpx]; exact Blk.new _ _ _)
                            have KWx := Lib.hid ((hk).trans kWx)
                            have HWx := Lib.hid hWx; have Hpx := Lib.hid hpx
                            have dc := BWx.out.cell 0 rfl; have dd := BWx.out.cell 1 rfl; have de := BWx.out.cell 2 rfl; have df := BWx.out.cell 3 rfl
                            rw [hWx, hpx] at dc dd de df
                            clear hx hcell hK1 hS2 hS3 hS4 hWx hpx kWx
                            have HPX := Lib.hid (fun W => rPuts_any HxO.out W)
                            simp only [vC] at HPX
                            rw [← HK1.out, ← HS2.out, ← HS3.out, ← HS4.out] at HPX
                            rw [← Hpx.out] at HPQX
                            have HTK2 : Hid (Kp wy Wx) := Lib.hid (by rw [HWx.out]; exact kp_alloc _ _)
                            obtain ⟨q, hq⟩ : ∃ q, q = pts x := ⟨_, rfl⟩
                            rw [← hq] at HPX
                            have HQQ := Lib.hid hq
                            clear hq hk hjn hs
                            go_wp2_with fail
                            rw [← HWx.out, ← Hpx.out]
                            refine (HPX.out _).mono ?_
                            rintro e w2 ⟨rfl, hk2⟩
                            have HS2_ := Lib.hid ((HSY.out.keep HTK2.out).keep hk2)
                            have BW2 := Lib.hid (BWx.out.keep hk2)
                            clear hk2
                            clear d0 d1 d2 d3 dc dd de df
                            cases q with
                            | false =>
                              go_wp2_with fail
                              go_roundw
                              case rel =>
                                refine ⟨j + 1, u1, u2, u3, by go_num, by omega, (by rw [outk_snoc Hx.out, if_neg (by rw [← HQQ.out]; simp)]; exact HS2_.out), Lib.hid (fun i z hi hz => ?_)⟩
                                by_cases e : i = j
                                · subst e
                                  rw [Hx.out] at hz
                                  obtain rfl := Option.some.inj hz
                                  intro h; rw [← HQQ.out] at h; cases h
                                · exact HAL.out i z (by omega) hz
                              case measure => (first | (simp [intOf]; omega) | simp [intOf])
                            | true =>
                              have z0 := BW2.out.cell 0 rfl; have z2 := BW2.out.cell 2 rfl; have z3 := BW2.out.cell 3 rfl
                              obtain ⟨B, hB⟩ : ∃ S, S = st (putB a x) := ⟨_, rfl⟩
                              have HBB := Lib.hid hB
                              have HFO : Hid (FlOk (x.2.1, putB a x)) := Lib.hid (flok_put HA.out HOK.out HxO.out)
                              by_cases hk4 : K1 = 4
                              · subst hk4
                                have HFD := Lib.hid (fun (W : World) (h : Kp W0 W) => rFind_any (HA.out.keep h) HxO.out.2.1.2.1)
                                have hpb : putB a x = (findF a x.2.2.1).1 := by unfold putB; rw [if_pos HK1.out.symm]
                                rw [← hpb, ← hB, ← HS3.out] at HFD
                                obtain ⟨q2, hq2⟩ : ∃ q, q = (findF a x.2.2.1).2 := ⟨_, rfl⟩
                                rw [← hq2] at HFD
                                have KX := Lib.hid (HKB.out.trans HS2_.out.kp)
                                have y0 := (HBR.out.keep KX.out).cell 0 rfl
                                clear hpb hB hq2
                                go_wp2_with fail
                                refine (HFD.out w2 KX.out).mono ?_
                                rintro e w3 ⟨rfl, hk3⟩
                                have HS3_ := Lib.hid (HS2_.out.keep hk3)
                                have BX3 := Lib.hid (BW2.out.keep hk3)
                                clear hk3 z0 z2 z3 y0
                                have HPT := Lib.hid (fun (W : World) => rPathA HxO.out.2.1.1 W)
                                rw [← HS2.out] at HPT
                                obtain ⟨r, hr⟩ : ∃ r, r = pathB x.2.1 := ⟨_, rfl⟩
                                rw [← hr] at HPT
                                have HRR := Lib.hid hr
                                clear hr
                                have z1 := BX3.out.cell 1 rfl
                                go_wp2_with fail
                                refine (HPT.out w3).mono ?_
                                rintro e w3' ⟨rfl, rfl⟩
                                clear z1
                                cases r with
                                | false =>
                                  have HEE : Hid (aplA a l = (1, [])) := Lib.hid (aE6 HOK.out HWL.out HNTL.out HAT.out HNH.out HxM.out HQQ.out.symm HRR.out.symm)
                                  have KE := Lib.hid (HKB.out.trans HS3_.out.kp)
                                  have xo := (HBO.out.keep KE.out).cell 0 rfl; have fo := (HBO.out.keep KE.out).free 0
                                  go_wp2_with fail
                                  exact FINE.out 1 _ _ rfl rfl rfl KE.out HEE.out
                                | true =>
                                  have HPB : Hid (pathB x.2.1 = true) := Lib.hid HRR.out.symm
                                  obtain ⟨p, hp⟩ : ∃ p, p = pos (outk a l j) x.2.1 := ⟨_, rfl⟩
                                  have HPU : Hid (p ≤ u2) := Lib.hid (by rw [hp, HU2.out]; exact pos_le _ _)
                                  have HPP := Lib.hid hp
                                  clear hp
                                  go_wp2_with fail
                                  go_loopw [36] (fun i wr => ∃ k : Nat, i = .int .i64 (k : Nat) ∧ k ≤ p ∧ Kp w3 wr) (fun i _ => p - (intOf i).toNat)
                                  case atStart => exact ⟨0, rfl, Nat.zero_le _, Kp.refl _⟩
                                  case round =>
                                    obtain ⟨k, rfl, hkp, hkk⟩ := hrel
                                    rename World => wz
                                    have HKZ := Lib.hid hkk
                                    have HSZ := Lib.hid (HS3_.out.keep hkk)
                                    have BXZ := Lib.hid (BX3.out.keep hkk)
                                    have x0 := HSZ.out.bq.cell 0 rfl
                                    have y1 := BXZ.out.cell 1 rfl
                                    by_cases hku : k < u2
                                    · obtain ⟨f, hf⟩ : ∃ f, (outk a l j)[k]? = some f := ⟨_, List.getElem?_eq_getElem (by have := HU2.out; omega)⟩
                                      have hfm := List.mem_of_getElem? hf
                                      obtain ⟨gb, go_, hga, hgc⟩ := HSZ.out.ow.rw.cell (by omega)
                                      subst hga
                                      obtain ⟨c0, -⟩ := hgc k f hf
                                      have hls := less_st (HSZ.out.ow.lt f hfm).1 HxO.out.2.1.1
                                      obtain ⟨U1, hU1⟩ : ∃ S, S = st f.1 := ⟨_, rfl⟩
                                      rw [← hU1] at c0 hls
                                      rw [← HS2.out] at hls
                                      obtain ⟨d, hd⟩ : ∃ d, d = decide (k < p) := ⟨_, rfl⟩
                                      have hld : lss f.1 x.2.1 = d := by
                                        rw [hd, HPP.out]
                                        by_cases h : k < p
                                        · rw [HPP.out] at h
                                          rw [decide_eq_true h]
                                          exact pos_ltJ h hf
                                        · have e : k = p := by omega
                                          rw [HPP.out] at h e
                                          rw [decide_eq_false h]
                                          rw [e] at hf
                                          exact pos_atJ hf
                                      rw [hld] at hls
                                      have HD := Lib.hid hd
                                      have j3 : (k : Int) < (u2 : Int) := by omega
                                      have j3' : decide ((k : Int) < (u2 : Int)) = true := decide_eq_true j3
                                      have j0 : (0 : Int) ≤ (k : Int) := by omega
                                      clear hf hfm hgc hU1 hd hld
                                      by_cases hip : k < p
                                      · rw [decide_eq_true hip] at HD
                                        obtain rfl := HD.out
                                        clear hkk
                                        go_wp2_with fail
                                        go_quiet (fail)
                                        have KQ0 : Kp wz (wz.drewN nq) := Kp.drewN wz nq
                                        generalize wz.drewN nq = WB at KQ0 ⊢
                                        have HSB := Lib.hid (HSZ.out.keep KQ0)
                                        have BXB := Lib.hid (BXZ.out.keep KQ0)
                                        have KQZ := HKZ.out.trans KQ0
                                        clear x0 y1 KQ0
                                        go_wp2_with fail
                                        go_roundw
                                        case rel => exact ⟨k + 1, by go_num, by omega, KQZ⟩
                                        case measure => (first | (simp [intOf]; omega) | simp [intOf])
                                      · rw [decide_eq_false hip] at HD
                                        obtain rfl := HD.out
                                        have hkp2 : k = p := by omega
                                        clear hkp hkk hip
                                        subst hkp2
                                        go_wp2_with fail
                                        go_quiet (fail)
                                        have KQ0 : Kp wz (wz.drewN nq) := Kp.drewN wz nq
                                        generalize wz.drewN nq = WB at KQ0 ⊢
                                        have HSB := Lib.hid (HSZ.out.keep KQ0)
                                        have BXB := Lib.hid (BXZ.out.keep KQ0)
                                        have KQZ := HKZ.out.trans KQ0
                                        clear x0 y1 KQ0
                                        clear c0 hls
                                        have x0 := HSB.out.bq.cell 0 rfl
                                        obtain ⟨W4, hW4⟩ : ∃ W, W = WB.alloc (.cells #[.string ⟨#[]⟩, .string ⟨#[]⟩] 53) := ⟨_, rfl⟩
                                        have k4 : Kp WB W4 := by rw [hW4]; exact kp_alloc _ _
                                        have HS4 := Lib.hid (HSB.out.keep k4)
                                        have BX4 := Lib.hid (BXB.out.keep k4)
                                        have hst0 : st ([] : List Nat) = ⟨#[]⟩ := by decide +kernel
                                        have HB4 : Hid (Blk W4 WB.heap.size 53 #[.string (st ([] : List Nat)), .string (st ([] : List Nat))]) := Lib.hid (by rw [hW4, hst0]; exact Blk.new _ _ _)
                                        have HW4 := Lib.hid hW4
                                        clear hW4 k4 hst0
                                        go_wp2_with (at_builtin; rw [← HW4.out]; refine wpList_fl rfl (.tmp 229) (.tmp 231) rfl _ rfl HS4.out.ow HLN.out (([], []) : Fl) flz_ok WB.heap.size rfl HB4.out ?_)
                                        intro v' w5 ho hg hb
                                        have hs5 := HS4.out.app ho hg hb
                                        have bq5 : Blk w5 pq 25 #[.slice (some ⟨gb, go_, none⟩) u2 u3] := HS4.out.bq.by hg (fun e => HS4.out.ne _ e.symm rfl)
                                        have hu12 : ∀ b, (.slice (some ⟨gb, go_, none⟩) u2 u3 : Value).ownBlock = some b → b < px := fun b hb => by
                                          have h1 := ((row_form HSY.out.ow.owns).2 b hb).2
                                          rw [← Hpx.out] at h1; exact h1
                                        have bx5 : Blk w5 px 50 #[.int .i64 4, .string S2, .string S3, .string S4] := BX4.out.by hg (fun e => by have := hu12 _ e.symm; omega)
                                        obtain ⟨g, c, hv', hgw, hnc, hcm, -⟩ := ho.rfc (by simp)
                                        subst hv'
                                        obtain ⟨g', c', hv2, -, -, -, hrk⟩ := hs5.ow.rfc (by simp)
                                        obtain ⟨rfl, rfl⟩ : g = g' ∧ c = c' := by
                                          simp only [Value.slice.injEq, Option.some.injEq, Addr.mk.injEq] at hv2
                                          exact ⟨hv2.1.1, hv2.2.2⟩
                                        have hgpx : g ≠ px := by
                                          rcases hb with e | e
                                          · have := hu12 g e.symm; omega
                                          · have e2 : g = W4.heap.size := by simpa [Value.ownBlock] using e
                                            have := BX4.out.lt
                                            omega
                                        have hgpq : g ≠ pq := hs5.ne g rfl
                                        obtain ⟨N, hN⟩ : ∃ N, N = (outk a l j ++ [(([], []) : Fl)]).length := ⟨_, rfl⟩
                                        have hNn : N = u2 + 1 := by rw [hN, List.length_append, HU2.out]; rfl
                                        rw [← hN] at hnc hs5 ⊢
                                        obtain ⟨w6, hw6⟩ : ∃ W, W = w5.setCell ⟨pq, 0, none⟩ (.slice (some ⟨g, 0, none⟩) N c) := ⟨_, rfl⟩
                                        rw [← hN, ← hw6] at hrk
                                        rw [← hw6] at hs5
                                        have o6 : Only pq w5 w6 := by rw [hw6]; exact (Only.refl _ _).set 0 _
                                        have bx6 := bx5.other o6 (by have := HPQX.out; omega)
                                        have x1 := bq5.cell 0 rfl; have f1 := bq5.free 0
                                        have hokz : ∀ z ∈ outk a l j ++ [(([], []) : Fl)], FlOk z := fun z hz => ⟨hs5.ow.lt z hz, hs5.ow.sm z hz⟩
                                        obtain ⟨w7, kk, hcp, hr7, ho7⟩ := shift_f (hrk.keep (kp_drew w6)) (N := N) hN.symm (i := k) (by omega) hnc
                                        obtain ⟨z1, hz1⟩ : ∃ z1, z1 = (outk a l j ++ [(([], []) : Fl)]).take (k + 1) ++ ((outk a l j ++ [(([], []) : Fl)]).drop k).take (N - (k + 1)) := ⟨_, rfl⟩
                                        rw [← hz1] at hr7
                                        have hzl : z1.length = N := by rw [hz1, List.length_append, List.length_take, List.length_take, List.length_drop, ← hN]; omega
                                        have hset : z1.set k (x.2.1, putB a x) = insF (outk a l j) (x.2.1, putB a x) := by
                                          have hkl : k < (outk a l j).length := by rw [← HU2.out]; omega
                                          rw [hz1, hN, List.length_append]
                                          have h := insF_shift hkl (([], []) : Fl) (x.2.1, putB a x)
                                          unfold insF
                                          rw [← HPP.out]
                                          exact h
                                        have bx7 := (bx6.keep (kp_drew w6)).other ho7 (fun e => hgpx e.symm)
                                        have bq7 := (hs5.bq.keep (kp_drew w6)).other ho7 (fun e => hgpq e.symm)
                                        obtain ⟨y, hy⟩ : ∃ y, z1[k]? = some y := ⟨_, List.getElem?_eq_getElem (by omega)⟩
                                        obtain ⟨d0, d1⟩ := hr7.cell hy
                                        have g0 := hr7.free (k * 2); have g1 := hr7.free (k * 2 + 1)
                                        have HFN : Hid (ApS W5 ((w7.setCell ⟨g, k * 2, none⟩ (.string S2)).setCell ⟨g, k * 2 + 1, none⟩ (.string B)) pq (.slice (some ⟨g, 0, none⟩) N c) (outk a l (j + 1))) := Lib.hid (by
                                          have h8 := hr7.put (i := k) (by omega) (x.2.1, putB a x)
                                          rw [hset] at h8
                                          have o8 : Only g w7 ((w7.setCell ⟨g, k * 2, none⟩ (.string (st x.2.1))).setCell ⟨g, k * 2 + 1, none⟩ (.string (st (putB a x)))) := ((Only.refl g w7).set _ _).set _ _
                                          rw [outk_snoc Hx.out, if_pos HQQ.out.symm, HS2.out, HBB.out]
                                          refine ⟨h8.own (by rw [insF_len, ← HU2.out]; omega) hnc hcm hgw (Only.kp (Only.kp (hs5.kp.trans (kp_drew w6)) ho7 hgw) o8 hgw) (fun z hz => ?_), bq7.other o8 (fun e => hgpq e.symm), hs5.ne, hs5.lq⟩
                                          rcases insF_mem.1 hz with h | h
                                          · rw [h]; exact HFO.out
                                          · exact hokz z (List.mem_append_left _ h))
                                        have j4 : (N : Int) ≤ (c : Int) := by omega
                                        have j5 : (N : Int) ≤ 300 := by have h1 := HU2L.out; omega
                                        have j6 : (k : Int) < (N : Int) := by omega
                                        have j7 : (k : Int) ≤ (N : Int) := by omega
                                        have y0 := hs5.bq.cell 0 rfl
                                        rw [hw6] at y0
                                        have e1 := bx7.cell 1 rfl
                                        have e0 := bq7.cell 0 rfl
                                        have j3 : (k : Int) + 1 < (N : Int) := by omega
                                        have HW6 := Lib.hid hw6
                                        clear hw6 ho hg hb bq5 bx5 hu12 hgw hnc hcm hrk hv2 hgpx hgpq hN hNn o6 bx6 hokz hs5 hr7 ho7 hz1 hzl hset bx7 bq7 hy
                                        go_wp2_with fail
                                        rw [← HW6.out]
                                        rw [← HW6.out] at y0
                                        go_region
                                        go_wp2_with fail
                                        go_roundw
                                        case rel =>
                                          refine ⟨j + 1, _, _, _, by go_num, by omega, HFN.out, Lib.hid (fun i z hi hz => ?_)⟩
                                          by_cases e : i = j
                                          · subst e
                                            rw [Hx.out] at hz
                                            obtain rfl := Option.some.inj hz
                                            exact fun _ => HPB.out
                                          · exact HAL.out i z (by omega) hz
                                        case measure => (first | (simp [intOf]; omega) | simp [intOf])
                                    · have hkp2 : k = p := by have := HPU.out; omega
                                      have HKE : Hid (k = u2) := Lib.hid (by have := HPU.out; omega)
                                      have j3 : (u2 : Int) ≤ (k : Int) := by omega
                                      have j3' : decide ((k : Int) < (u2 : Int)) = false := decide_eq_false (by omega)
                                      have j3n : decide (k < u2) = false := decide_eq_false hku
                                      clear j3
                                      clear hkp hkk hku
                                      subst hkp2
                                      go_wp2_with fail
                                      go_quiet (fail)
                                      have KQ0 : Kp wz (wz.drewN nq) := Kp.drewN wz nq
                                      generalize wz.drewN nq = WB at KQ0 ⊢
                                      have HSB := Lib.hid (HSZ.out.keep KQ0)
                                      have BXB := Lib.hid (BXZ.out.keep KQ0)
                                      have KQZ := HKZ.out.trans KQ0
                                      clear x0 y1 KQ0
                                      have x0 := HSB.out.bq.cell 0 rfl
                                      obtain ⟨W4, hW4⟩ : ∃ W, W = WB.alloc (.cells #[.string ⟨#[]⟩, .string ⟨#[]⟩] 53) := ⟨_, rfl⟩
                                      have k4 : Kp WB W4 := by rw [hW4]; exact kp_alloc _ _
                                      have HS4 := Lib.hid (HSB.out.keep k4)
                                      have BX4 := Lib.hid (BXB.out.keep k4)
                                      have hst0 : st ([] : List Nat) = ⟨#[]⟩ := by decide +kernel
                                      have HB4 : Hid (Blk W4 WB.heap.size 53 #[.string (st ([] : List Nat)), .string (st ([] : List Nat))]) := Lib.hid (by rw [hW4, hst0]; exact Blk.new _ _ _)
                                      have HW4 := Lib.hid hW4
                                      clear hW4 k4 hst0
                                      go_wp2_with (at_builtin; rw [← HW4.out]; refine wpList_fl rfl (.tmp 229) (.tmp 231) rfl _ rfl HS4.out.ow HLN.out (([], []) : Fl) flz_ok WB.heap.size rfl HB4.out ?_)
                                      intro v' w5 ho hg hb
                                      have hs5 := HS4.out.app ho hg hb
                                      have bq5 : Blk w5 pq 25 #[.slice u1 u2 u3] := HS4.out.bq.by hg (fun e => HS4.out.ne _ e.symm rfl)
                                      have hu12 : ∀ b, (.slice u1 u2 u3 : Value).ownBlock = some b → b < px := fun b hb => by
                                        have h1 := ((row_form HSY.out.ow.owns).2 b hb).2
                                        rw [← Hpx.out] at h1; exact h1
                                      have bx5 : Blk w5 px 50 #[.int .i64 4, .string S2, .string S3, .string S4] := BX4.out.by hg (fun e => by have := hu12 _ e.symm; omega)
                                      obtain ⟨g, c, hv', hgw, hnc, hcm, -⟩ := ho.rfc (by simp)
                                      subst hv'
                                      obtain ⟨g', c', hv2, -, -, -, hrk⟩ := hs5.ow.rfc (by simp)
                                      obtain ⟨rfl, rfl⟩ : g = g' ∧ c = c' := by
                                        simp only [Value.slice.injEq, Option.some.injEq, Addr.mk.injEq] at hv2
                                        exact ⟨hv2.1.1, hv2.2.2⟩
                                      have hgpx : g ≠ px := by
                                        rcases hb with e | e
                                        · have := hu12 g e.symm; omega
                                        · have e2 : g = W4.heap.size := by simpa [Value.ownBlock] using e
                                          have := BX4.out.lt
                                          omega
                                      have hgpq : g ≠ pq := hs5.ne g rfl
                                      obtain ⟨N, hN⟩ : ∃ N, N = (outk a l j ++ [(([], []) : Fl)]).length := ⟨_, rfl⟩
                                      have hNn : N = u2 + 1 := by rw [hN, List.length_append, HU2.out]; rfl
                                      rw [← hN] at hnc hs5 ⊢
                                      obtain ⟨w6, hw6⟩ : ∃ W, W = w5.setCell ⟨pq, 0, none⟩ (.slice (some ⟨g, 0, none⟩) N c) := ⟨_, rfl⟩
                                      rw [← hN, ← hw6] at hrk
                                      rw [← hw6] at hs5
                                      have o6 : Only pq w5 w6 := by rw [hw6]; exact (Only.refl _ _).set 0 _
                                      have bx6 := bx5.other o6 (by have := HPQX.out; omega)
                                      have x1 := bq5.cell 0 rfl; have f1 := bq5.free 0
                                      have hokz : ∀ z ∈ outk a l j ++ [(([], []) : Fl)], FlOk z := fun z hz => ⟨hs5.ow.lt z hz, hs5.ow.sm z hz⟩
                                      have hke := HKE.out
                                      have hNk : N = k + 1 := by omega
                                      subst hNk
                                      have hzl : (outk a l j ++ [(([], []) : Fl)]).length = k + 1 := hN.symm
                                      have hset : (outk a l j ++ [(([], []) : Fl)]).set k (x.2.1, putB a x) = insF (outk a l j) (x.2.1, putB a x) := by
                                        have h := insF_end (fs := outk a l j) (([], []) : Fl) (x.2.1, putB a x)
                                        unfold insF
                                        rw [← HPP.out]
                                        rw [← HU2.out, ← HKE.out] at h
                                        exact h
                                      have hr7 := hrk.keep (kp_drew w6)
                                      obtain ⟨y, hy⟩ : ∃ y, (outk a l j ++ [(([], []) : Fl)])[k]? = some y := ⟨_, List.getElem?_eq_getElem (by omega)⟩
                                      obtain ⟨d0, d1⟩ := hrk.cell hy
                                      have g0 := hrk.free (k * 2); have g1 := hrk.free (k * 2 + 1)
                                      have hcp : ∀ (ty : TypeId) (d a : Addr) (c1 l2 c2 : Nat), (Builtin.copy_ #[23, 23] ty #[.slice (some d) 0 c1, .slice (some a) l2 c2]).run Tryz.prog w6.drew = .ok (goInt 0) w6.drew := by
                                        intro ty d a c1 l2 c2
                                        obtain ⟨inf, hi1, hi2, hi3, hi4⟩ := info_parts infoFile
                                        have hl : (loadCells a 0).run Tryz.prog w6.drew = .ok #[] w6.drew := by simpa using run_loadCells_list (P := Tryz.prog) w6.drew a [] (by simp)
                                        simp [Builtin.copy_, run_underlying Tryz.underlying23, Builtin.lenOf, Builtin.firstCells, sizeOf, typeInfo, hi1, hi3, hl, storeCells]
                                      have HFN : Hid (ApS W5 ((w6.drew.setCell ⟨g, k * 2, none⟩ (.string S2)).setCell ⟨g, k * 2 + 1, none⟩ (.string B)) pq (.slice (some ⟨g, 0, none⟩) (k + 1) c) (outk a l (j + 1))) := Lib.hid (by
                                        have h8 := hr7.put (i := k) (by omega) (x.2.1, putB a x)
                                        rw [hset] at h8
                                        have o8 : Only g w6.drew ((w6.drew.setCell ⟨g, k * 2, none⟩ (.string (st x.2.1))).setCell ⟨g, k * 2 + 1, none⟩ (.string (st (putB a x)))) := ((Only.refl g w6.drew).set _ _).set _ _
                                        rw [outk_snoc Hx.out, if_pos HQQ.out.symm, HS2.out, HBB.out]
                                        refine ⟨h8.own (by rw [insF_len, ← HU2.out]; omega) hnc hcm hgw (Only.kp (hs5.kp.trans (kp_drew w6)) o8 hgw) (fun z hz => ?_), (hs5.bq.keep (kp_drew w6)).other o8 (fun e => hgpq e.symm), hs5.ne, hs5.lq⟩
                                        rcases insF_mem.1 hz with h | h
                                        · rw [h]; exact HFO.out
                                        · exact hokz z (List.mem_append_left _ h))
                                      have j4 : ((k : Int) + 1) ≤ (c : Int) := by omega
                                      have j5 : ((k : Int) + 1) ≤ 300 := by have h1 := HU2L.out; omega
                                      have j6 : (k : Int) < ((k : Int) + 1) := by omega
                                      have j7 : (k : Int) ≤ ((k : Int) + 1) := by omega
                                      have j8 : (0 : Int) ≤ (k : Int) := by omega
                                      have y0 := hs5.bq.cell 0 rfl
                                      rw [hw6] at y0
                                      have e1 := bx6.cell 1 rfl
                                      have HW6 := Lib.hid hw6
                                      clear hw6 ho hg hb bq5 bx5 hu12 hgw hnc hcm hrk hv2 hgpx hgpq hN hNn o6 bx6 hokz hs5 hr7 hzl hset hy hke
                                      by_cases hci : c = k + 1
                                      · subst hci
                                        go_wp2_with fail
                                        rw [← HW6.out]
                                        rw [← HW6.out] at y0
                                        go_region
                                        go_wp2_with fail
                                        go_roundw
                                        case rel =>
                                          refine ⟨j + 1, _, _, _, by go_num, by omega, HFN.out, Lib.hid (fun i z hi hz => ?_)⟩
                                          by_cases e : i = j
                                          · subst e
                                            rw [Hx.out] at hz
                                            obtain rfl := Option.some.inj hz
                                            exact fun _ => HPB.out
                                          · exact HAL.out i z (by omega) hz
                                        case measure => (first | (simp [intOf]; omega) | simp [intOf])
                                      · have j8 : (k : Int) + 1 < (c : Int) := by omega
                                        go_wp2_with fail
                                        rw [← HW6.out]
                                        rw [← HW6.out] at y0
                                        go_region
                                        go_wp2_with fail
                                        go_roundw
                                        case rel =>
                                          refine ⟨j + 1, _, _, _, by go_num, by omega, HFN.out, Lib.hid (fun i z hi hz => ?_)⟩
                                          by_cases e : i = j
                                          · subst e
                                            rw [Hx.out] at hz
                                            obtain rfl := Option.some.inj hz
                                            exact fun _ => HPB.out
                                          · exact HAL.out i z (by omega) hz
                                        case measure => (first | (simp [intOf]; omega) | simp [intOf])
                              · have hk4' : ((K1 : Int) == 4) = false := beq_eq_false_iff_ne.2 hk4
                                have hpb : putB a x = x.2.2.2 := by unfold putB; rw [if_neg (fun e => hk4 (by rw [HK1.out]; exact e))]
                                have hBS : B = S4 := by rw [hB, hpb, HS4.out]
                                subst hBS
                                obtain ⟨w3, hw3⟩ : ∃ W, W = w2 := ⟨_, rfl⟩
                                subst hw3
                                have HS3_ := HS2_
                                have BX3 := BW2
                                clear hk4 hpb hB
                                clear z0 z2 z3
                                have z0 := BW2.out.cell 0 rfl; have z3 := BW2.out.cell 3 rfl
                                have HPT := Lib.hid (fun (W : World) => rPathA HxO.out.2.1.1 W)
                                rw [← HS2.out] at HPT
                                obtain ⟨r, hr⟩ : ∃ r, r = pathB x.2.1 := ⟨_, rfl⟩
                                rw [← hr] at HPT
                                have HRR := Lib.hid hr
                                clear hr
                                have z1 := BX3.out.cell 1 rfl
                                go_wp2_with fail
                                refine (HPT.out w3).mono ?_
                                rintro e w3' ⟨rfl, rfl⟩
                                clear z1
                                cases r with
                                | false =>
                                  have HEE : Hid (aplA a l = (1, [])) := Lib.hid (aE6 HOK.out HWL.out HNTL.out HAT.out HNH.out HxM.out HQQ.out.symm HRR.out.symm)
                                  have KE := Lib.hid (HKB.out.trans HS3_.out.kp)
                                  have xo := (HBO.out.keep KE.out).cell 0 rfl; have fo := (HBO.out.keep KE.out).free 0
                                  go_wp2_with fail
                                  exact FINE.out 1 _ _ rfl rfl rfl KE.out HEE.out
                                | true =>
                                  have HPB : Hid (pathB x.2.1 = true) := Lib.hid HRR.out.symm
                                  obtain ⟨p, hp⟩ : ∃ p, p = pos (outk a l j) x.2.1 := ⟨_, rfl⟩
                                  have HPU : Hid (p ≤ u2) := Lib.hid (by rw [hp, HU2.out]; exact pos_le _ _)
                                  have HPP := Lib.hid hp
                                  clear hp
                                  go_wp2_with fail
                                  go_loopw [36] (fun i wr => ∃ k : Nat, i = .int .i64 (k : Nat) ∧ k ≤ p ∧ Kp w3 wr) (fun i _ => p - (intOf i).toNat)
                                  case atStart => exact ⟨0, rfl, Nat.zero_le _, Kp.refl _⟩
                                  case round =>
                                    obtain ⟨k, rfl, hkp, hkk⟩ := hrel
                                    rename World => wz
                                    have HKZ := Lib.hid hkk
                                    have HSZ := Lib.hid (HS3_.out.keep hkk)
                                    have BXZ := Lib.hid (BX3.out.keep hkk)
                                    have x0 := HSZ.out.bq.cell 0 rfl
                                    have y1 := BXZ.out.cell 1 rfl
                                    by_cases hku : k < u2
                                    · obtain ⟨f, hf⟩ : ∃ f, (outk a l j)[k]? = some f := ⟨_, List.getElem?_eq_getElem (by have := HU2.out; omega)⟩
                                      have hfm := List.mem_of_getElem? hf
                                      obtain ⟨gb, go_, hga, hgc⟩ := HSZ.out.ow.rw.cell (by omega)
                                      subst hga
                                      obtain ⟨c0, -⟩ := hgc k f hf
                                      have hls := less_st (HSZ.out.ow.lt f hfm).1 HxO.out.2.1.1
                                      obtain ⟨U1, hU1⟩ : ∃ S, S = st f.1 := ⟨_, rfl⟩
                                      rw [← hU1] at c0 hls
                                      rw [← HS2.out] at hls
                                      obtain ⟨d, hd⟩ : ∃ d, d = decide (k < p) := ⟨_, rfl⟩
                                      have hld : lss f.1 x.2.1 = d := by
                                        rw [hd, HPP.out]
                                        by_cases h : k < p
                                        · rw [HPP.out] at h
                                          rw [decide_eq_true h]
                                          exact pos_ltJ h hf
                                        · have e : k = p := by omega
                                          rw [HPP.out] at h e
                                          rw [decide_eq_false h]
                                          rw [e] at hf
                                          exact pos_atJ hf
                                      rw [hld] at hls
                                      have HD := Lib.hid hd
                                      have j3 : (k : Int) < (u2 : Int) := by omega
                                      have j3' : decide ((k : Int) < (u2 : Int)) = true := decide_eq_true j3
                                      have j0 : (0 : Int) ≤ (k : Int) := by omega
                                      clear hf hfm hgc hU1 hd hld
                                      by_cases hip : k < p
                                      · rw [decide_eq_true hip] at HD
                                        obtain rfl := HD.out
                                        clear hkk
                                        go_wp2_with fail
                                        go_quiet (fail)
                                        have KQ0 : Kp wz (wz.drewN nq) := Kp.drewN wz nq
                                        generalize wz.drewN nq = WB at KQ0 ⊢
                                        have HSB := Lib.hid (HSZ.out.keep KQ0)
                                        have BXB := Lib.hid (BXZ.out.keep KQ0)
                                        have KQZ := HKZ.out.trans KQ0
                                        clear x0 y1 KQ0
                                        go_wp2_with fail
                                        go_roundw
                                        case rel => exact ⟨k + 1, by go_num, by omega, KQZ⟩
                                        case measure => (first | (simp [intOf]; omega) | simp [intOf])
                                      · rw [decide_eq_false hip] at HD
                                        obtain rfl := HD.out
                                        have hkp2 : k = p := by omega
                                        clear hkp hkk hip
                                        subst hkp2
                                        go_wp2_with fail
                                        go_quiet (fail)
                                        have KQ0 : Kp wz (wz.drewN nq) := Kp.drewN wz nq
                                        generalize wz.drewN nq = WB at KQ0 ⊢
                                        have HSB := Lib.hid (HSZ.out.keep KQ0)
                                        have BXB := Lib.hid (BXZ.out.keep KQ0)
                                        have KQZ := HKZ.out.trans KQ0
                                        clear x0 y1 KQ0
                                        clear c0 hls
                                        have x0 := HSB.out.bq.cell 0 rfl
                                        obtain ⟨W4, hW4⟩ : ∃ W, W = WB.alloc (.cells #[.string ⟨#[]⟩, .string ⟨#[]⟩] 53) := ⟨_, rfl⟩
                                        have k4 : Kp WB W4 := by rw [hW4]; exact kp_alloc _ _
                                        have HS4 := Lib.hid (HSB.out.keep k4)
                                        have BX4 := Lib.hid (BXB.out.keep k4)
                                        have hst0 : st ([] : List Nat) = ⟨#[]⟩ := by decide +kernel
                                        have HB4 : Hid (Blk W4 WB.heap.size 53 #[.string (st ([] : List Nat)), .string (st ([] : List Nat))]) := Lib.hid (by rw [hW4, hst0]; exact Blk.new _ _ _)
                                        have HW4 := Lib.hid hW4
                                        clear hW4 k4 hst0
                                        go_wp2_with (at_builtin; rw [← HW4.out]; refine wpList_fl rfl (.tmp 229) (.tmp 231) rfl _ rfl HS4.out.ow HLN.out (([], []) : Fl) flz_ok WB.heap.size rfl HB4.out ?_)
                                        intro v' w5 ho hg hb
                                        have hs5 := HS4.out.app ho hg hb
                                        have bq5 : Blk w5 pq 25 #[.slice (some ⟨gb, go_, none⟩) u2 u3] := HS4.out.bq.by hg (fun e => HS4.out.ne _ e.symm rfl)
                                        have hu12 : ∀ b, (.slice (some ⟨gb, go_, none⟩) u2 u3 : Value).ownBlock = some b → b < px := fun b hb => by
                                          have h1 := ((row_form HSY.out.ow.owns).2 b hb).2
                                          rw [← Hpx.out] at h1; exact h1
                                        have bx5 : Blk w5 px 50 #[.int .i64 K1, .string S2, .string S3, .string B] := BX4.out.by hg (fun e => by have := hu12 _ e.symm; omega)
                                        obtain ⟨g, c, hv', hgw, hnc, hcm, -⟩ := ho.rfc (by simp)
                                        subst hv'
                                        obtain ⟨g', c', hv2, -, -, -, hrk⟩ := hs5.ow.rfc (by simp)
                                        obtain ⟨rfl, rfl⟩ : g = g' ∧ c = c' := by
                                          simp only [Value.slice.injEq, Option.some.injEq, Addr.mk.injEq] at hv2
                                          exact ⟨hv2.1.1, hv2.2.2⟩
                                        have hgpx : g ≠ px := by
                                          rcases hb with e | e
                                          · have := hu12 g e.symm; omega
                                          · have e2 : g = W4.heap.size := by simpa [Value.ownBlock] using e
                                            have := BX4.out.lt
                                            omega
                                        have hgpq : g ≠ pq := hs5.ne g rfl
                                        obtain ⟨N, hN⟩ : ∃ N, N = (outk a l j ++ [(([], []) : Fl)]).length := ⟨_, rfl⟩
                                        have hNn : N = u2 + 1 := by rw [hN, List.length_append, HU2.out]; rfl
                                        rw [← hN] at hnc hs5 ⊢
                                        obtain ⟨w6, hw6⟩ : ∃ W, W = w5.setCell ⟨pq, 0, none⟩ (.slice (some ⟨g, 0, none⟩) N c) := ⟨_, rfl⟩
                                        rw [← hN, ← hw6] at hrk
                                        rw [← hw6] at hs5
                                        have o6 : Only pq w5 w6 := by rw [hw6]; exact (Only.refl _ _).set 0 _
                                        have bx6 := bx5.other o6 (by have := HPQX.out; omega)
                                        have x1 := bq5.cell 0 rfl; have f1 := bq5.free 0
                                        have hokz : ∀ z ∈ outk a l j ++ [(([], []) : Fl)], FlOk z := fun z hz => ⟨hs5.ow.lt z hz, hs5.ow.sm z hz⟩
                                        obtain ⟨w7, kk, hcp, hr7, ho7⟩ := shift_f (hrk.keep (kp_drew w6)) (N := N) hN.symm (i := k) (by omega) hnc
                                        obtain ⟨z1, hz1⟩ : ∃ z1, z1 = (outk a l j ++ [(([], []) : Fl)]).take (k + 1) ++ ((outk a l j ++ [(([], []) : Fl)]).drop k).take (N - (k + 1)) := ⟨_, rfl⟩
                                        rw [← hz1] at hr7
                                        have hzl : z1.length = N := by rw [hz1, List.length_append, List.length_take, List.length_take, List.length_drop, ← hN]; omega
                                        have hset : z1.set k (x.2.1, putB a x) = insF (outk a l j) (x.2.1, putB a x) := by
                                          have hkl : k < (outk a l j).length := by rw [← HU2.out]; omega
                                          rw [hz1, hN, List.length_append]
                                          have h := insF_shift hkl (([], []) : Fl) (x.2.1, putB a x)
                                          unfold insF
                                          rw [← HPP.out]
                                          exact h
                                        have bx7 := (bx6.keep (kp_drew w6)).other ho7 (fun e => hgpx e.symm)
                                        have bq7 := (hs5.bq.keep (kp_drew w6)).other ho7 (fun e => hgpq e.symm)
                                        obtain ⟨y, hy⟩ : ∃ y, z1[k]? = some y := ⟨_, List.getElem?_eq_getElem (by omega)⟩
                                        obtain ⟨d0, d1⟩ := hr7.cell hy
                                        have g0 := hr7.free (k * 2); have g1 := hr7.free (k * 2 + 1)
                                        have HFN : Hid (ApS W5 ((w7.setCell ⟨g, k * 2, none⟩ (.string S2)).setCell ⟨g, k * 2 + 1, none⟩ (.string B)) pq (.slice (some ⟨g, 0, none⟩) N c) (outk a l (j + 1))) := Lib.hid (by
                                          have h8 := hr7.put (i := k) (by omega) (x.2.1, putB a x)
                                          rw [hset] at h8
                                          have o8 : Only g w7 ((w7.setCell ⟨g, k * 2, none⟩ (.string (st x.2.1))).setCell ⟨g, k * 2 + 1, none⟩ (.string (st (putB a x)))) := ((Only.refl g w7).set _ _).set _ _
                                          rw [outk_snoc Hx.out, if_pos HQQ.out.symm, HS2.out, HBB.out]
                                          refine ⟨h8.own (by rw [insF_len, ← HU2.out]; omega) hnc hcm hgw (Only.kp (Only.kp (hs5.kp.trans (kp_drew w6)) ho7 hgw) o8 hgw) (fun z hz => ?_), bq7.other o8 (fun e => hgpq e.symm), hs5.ne, hs5.lq⟩
                                          rcases insF_mem.1 hz with h | h
                                          · rw [h]; exact HFO.out
                                          · exact hokz z (List.mem_append_left _ h))
                                        have j4 : (N : Int) ≤ (c : Int) := by omega
                                        have j5 : (N : Int) ≤ 300 := by have h1 := HU2L.out; omega
                                        have j6 : (k : Int) < (N : Int) := by omega
                                        have j7 : (k : Int) ≤ (N : Int) := by omega
                                        have y0 := hs5.bq.cell 0 rfl
                                        rw [hw6] at y0
                                        have e1 := bx7.cell 1 rfl
                                        have e0 := bq7.cell 0 rfl
                                        have j3 : (k : Int) + 1 < (N : Int) := by omega
                                        have HW6 := Lib.hid hw6
                                        clear hw6 ho hg hb bq5 bx5 hu12 hgw hnc hcm hrk hv2 hgpx hgpq hN hNn o6 bx6 hokz hs5 hr7 ho7 hz1 hzl hset bx7 bq7 hy
                                        go_wp2_with fail
                                        rw [← HW6.out]
                                        rw [← HW6.out] at y0
                                        go_region
                                        go_wp2_with fail
                                        go_roundw
                                        case rel =>
                                          refine ⟨j + 1, _, _, _, by go_num, by omega, HFN.out, Lib.hid (fun i z hi hz => ?_)⟩
                                          by_cases e : i = j
                                          · subst e
                                            rw [Hx.out] at hz
                                            obtain rfl := Option.some.inj hz
                                            exact fun _ => HPB.out
                                          · exact HAL.out i z (by omega) hz
                                        case measure => (first | (simp [intOf]; omega) | simp [intOf])
                                    · have hkp2 : k = p := by have := HPU.out; omega
                                      have HKE : Hid (k = u2) := Lib.hid (by have := HPU.out; omega)
                                      have j3 : (u2 : Int) ≤ (k : Int) := by omega
                                      have j3' : decide ((k : Int) < (u2 : Int)) = false := decide_eq_false (by omega)
                                      have j3n : decide (k < u2) = false := decide_eq_false hku
                                      clear j3
                                      clear hkp hkk hku
                                      subst hkp2
                                      go_wp2_with fail
                                      go_quiet (fail)
                                      have KQ0 : Kp wz (wz.drewN nq) := Kp.drewN wz nq
                                      generalize wz.drewN nq = WB at KQ0 ⊢
                                      have HSB := Lib.hid (HSZ.out.keep KQ0)
                                      have BXB := Lib.hid (BXZ.out.keep KQ0)
                                      have KQZ := HKZ.out.trans KQ0
                                      clear x0 y1 KQ0
                                      have x0 := HSB.out.bq.cell 0 rfl
                                      obtain ⟨W4, hW4⟩ : ∃ W, W = WB.alloc (.cells #[.string ⟨#[]⟩, .string ⟨#[]⟩] 53) := ⟨_, rfl⟩
                                      have k4 : Kp WB W4 := by rw [hW4]; exact kp_alloc _ _
                                      have HS4 := Lib.hid (HSB.out.keep k4)
                                      have BX4 := Lib.hid (BXB.out.keep k4)
                                      have hst0 : st ([] : List Nat) = ⟨#[]⟩ := by decide +kernel
                                      have HB4 : Hid (Blk W4 WB.heap.size 53 #[.string (st ([] : List Nat)), .string (st ([] : List Nat))]) := Lib.hid (by rw [hW4, hst0]; exact Blk.new _ _ _)
                                      have HW4 := Lib.hid hW4
                                      clear hW4 k4 hst0
                                      go_wp2_with (at_builtin; rw [← HW4.out]; refine wpList_fl rfl (.tmp 229) (.tmp 231) rfl _ rfl HS4.out.ow HLN.out (([], []) : Fl) flz_ok WB.heap.size rfl HB4.out ?_)
                                      intro v' w5 ho hg hb
                                      have hs5 := HS4.out.app ho hg hb
                                      have bq5 : Blk w5 pq 25 #[.slice u1 u2 u3] := HS4.out.bq.by hg (fun e => HS4.out.ne _ e.symm rfl)
                                      have hu12 : ∀ b, (.slice u1 u2 u3 : Value).ownBlock = some b → b < px := fun b hb => by
                                        have h1 := ((row_form HSY.out.ow.owns).2 b hb).2
                                        rw [← Hpx.out] at h1; exact h1
                                      have bx5 : Blk w5 px 50 #[.int .i64 K1, .string S2, .string S3, .string B] := BX4.out.by hg (fun e => by have := hu12 _ e.symm; omega)
                                      obtain ⟨g, c, hv', hgw, hnc, hcm, -⟩ := ho.rfc (by simp)
                                      subst hv'
                                      obtain ⟨g', c', hv2, -, -, -, hrk⟩ := hs5.ow.rfc (by simp)
                                      obtain ⟨rfl, rfl⟩ : g = g' ∧ c = c' := by
                                        simp only [Value.slice.injEq, Option.some.injEq, Addr.mk.injEq] at hv2
                                        exact ⟨hv2.1.1, hv2.2.2⟩
                                      have hgpx : g ≠ px := by
                                        rcases hb with e | e
                                        · have := hu12 g e.symm; omega
                                        · have e2 : g = W4.heap.size := by simpa [Value.ownBlock] using e
                                          have := BX4.out.lt
                                          omega
                                      have hgpq : g ≠ pq := hs5.ne g rfl
                                      obtain ⟨N, hN⟩ : ∃ N, N = (outk a l j ++ [(([], []) : Fl)]).length := ⟨_, rfl⟩
                                      have hNn : N = u2 + 1 := by rw [hN, List.length_append, HU2.out]; rfl
                                      rw [← hN] at hnc hs5 ⊢
                                      obtain ⟨w6, hw6⟩ : ∃ W, W = w5.setCell ⟨pq, 0, none⟩ (.slice (some ⟨g, 0, none⟩) N c) := ⟨_, rfl⟩
                                      rw [← hN, ← hw6] at hrk
                                      rw [← hw6] at hs5
                                      have o6 : Only pq w5 w6 := by rw [hw6]; exact (Only.refl _ _).set 0 _
                                      have bx6 := bx5.other o6 (by have := HPQX.out; omega)
                                      have x1 := bq5.cell 0 rfl; have f1 := bq5.free 0
                                      have hokz : ∀ z ∈ outk a l j ++ [(([], []) : Fl)], FlOk z := fun z hz => ⟨hs5.ow.lt z hz, hs5.ow.sm z hz⟩
                                      have hke := HKE.out
                                      have hNk : N = k + 1 := by omega
                                      subst hNk
                                      have hzl : (outk a l j ++ [(([], []) : Fl)]).length = k + 1 := hN.symm
                                      have hset : (outk a l j ++ [(([], []) : Fl)]).set k (x.2.1, putB a x) = insF (outk a l j) (x.2.1, putB a x) := by
                                        have h := insF_end (fs := outk a l j) (([], []) : Fl) (x.2.1, putB a x)
                                        unfold insF
                                        rw [← HPP.out]
                                        rw [← HU2.out, ← HKE.out] at h
                                        exact h
                                      have hr7 := hrk.keep (kp_drew w6)
                                      obtain ⟨y, hy⟩ : ∃ y, (outk a l j ++ [(([], []) : Fl)])[k]? = some y := ⟨_, List.getElem?_eq_getElem (by omega)⟩
                                      obtain ⟨d0, d1⟩ := hrk.cell hy
                                      have g0 := hrk.free (k * 2); have g1 := hrk.free (k * 2 + 1)
                                      have hcp : ∀ (ty : TypeId) (d a : Addr) (c1 l2 c2 : Nat), (Builtin.copy_ #[23, 23] ty #[.slice (some d) 0 c1, .slice (some a) l2 c2]).run Tryz.prog w6.drew = .ok (goInt 0) w6.drew := by
                                        intro ty d a c1 l2 c2
                                        obtain ⟨inf, hi1, hi2, hi3, hi4⟩ := info_parts infoFile
                                        have hl : (loadCells a 0).run Tryz.prog w6.drew = .ok #[] w6.drew := by simpa using run_loadCells_list (P := Tryz.prog) w6.drew a [] (by simp)
                                        simp [Builtin.copy_, run_underlying Tryz.underlying23, Builtin.lenOf, Builtin.firstCells, sizeOf, typeInfo, hi1, hi3, hl, storeCells]
                                      have HFN : Hid (ApS W5 ((w6.drew.setCell ⟨g, k * 2, none⟩ (.string S2)).setCell ⟨g, k * 2 + 1, none⟩ (.string B)) pq (.slice (some ⟨g, 0, none⟩) (k + 1) c) (outk a l (j + 1))) := Lib.hid (by
                                        have h8 := hr7.put (i := k) (by omega) (x.2.1, putB a x)
                                        rw [hset] at h8
                                        have o8 : Only g w6.drew ((w6.drew.setCell ⟨g, k * 2, none⟩ (.string (st x.2.1))).setCell ⟨g, k * 2 + 1, none⟩ (.string (st (putB a x)))) := ((Only.refl g w6.drew).set _ _).set _ _
                                        rw [outk_snoc Hx.out, if_pos HQQ.out.symm, HS2.out, HBB.out]
                                        refine ⟨h8.own (by rw [insF_len, ← HU2.out]; omega) hnc hcm hgw (Only.kp (hs5.kp.trans (kp_drew w6)) o8 hgw) (fun z hz => ?_), (hs5.bq.keep (kp_drew w6)).other o8 (fun e => hgpq e.symm), hs5.ne, hs5.lq⟩
                                        rcases insF_mem.1 hz with h | h
                                        · rw [h]; exact HFO.out
                                        · exact hokz z (List.mem_append_left _ h))
                                      have j4 : ((k : Int) + 1) ≤ (c : Int) := by omega
                                      have j5 : ((k : Int) + 1) ≤ 300 := by have h1 := HU2L.out; omega
                                      have j6 : (k : Int) < ((k : Int) + 1) := by omega
                                      have j7 : (k : Int) ≤ ((k : Int) + 1) := by omega
                                      have j8 : (0 : Int) ≤ (k : Int) := by omega
                                      have y0 := hs5.bq.cell 0 rfl
                                      rw [hw6] at y0
                                      have e1 := bx6.cell 1 rfl
                                      have HW6 := Lib.hid hw6
                                      clear hw6 ho hg hb bq5 bx5 hu12 hgw hnc hcm hrk hv2 hgpx hgpq hN hNn o6 bx6 hokz hs5 hr7 hzl hset hy hke
                                      by_cases hci : c = k + 1
                                      · subst hci
                                        go_wp2_with fail
                                        rw [← HW6.out]
                                        rw [← HW6.out] at y0
                                        go_region
                                        go_wp2_with fail
                                        go_roundw
                                        case rel =>
                                          refine ⟨j + 1, _, _, _, by go_num, by omega, HFN.out, Lib.hid (fun i z hi hz => ?_)⟩
                                          by_cases e : i = j
                                          · subst e
                                            rw [Hx.out] at hz
                                            obtain rfl := Option.some.inj hz
                                            exact fun _ => HPB.out
                                          · exact HAL.out i z (by omega) hz
                                        case measure => (first | (simp [intOf]; omega) | simp [intOf])
                                      · have j8 : (k : Int) + 1 < (c : Int) := by omega
                                        go_wp2_with fail
                                        rw [← HW6.out]
                                        rw [← HW6.out] at y0
                                        go_region
                                        go_wp2_with fail
                                        go_roundw
                                        case rel =>
                                          refine ⟨j + 1, _, _, _, by go_num, by omega, HFN.out, Lib.hid (fun i z hi hz => ?_)⟩
                                          by_cases e : i = j
                                          · subst e
                                            rw [Hx.out] at hz
                                            obtain rfl := Option.some.inj hz
                                            exact fun _ => HPB.out
                                          · exact HAL.out i z (by omega) hz
                                        case measure => (first | (simp [intOf]; omega) | simp [intOf])
                          · have j1 : (n : Int) ≤ (j : Int) := by omega
                            have j1' : decide (j < n) = false := decide_eq_false hjn
                            have HPA6 : Hid (∀ x ∈ l, pts x = true → pathB x.2.1 = true) := Lib.hid (fun x hx => by
                              obtain ⟨i, hi⟩ := List.mem_iff_getElem?.1 hx
                              exact HAL.out i x (by have := (List.getElem?_eq_some_iff.1 hi).1; have := HN.out; omega) hi)
                            have hs2 := hs
                            rw [outk_all (by have := HN.out; omega)] at hs2
                            have HS10 := Lib.hid hs2
                            have HCK := Lib.hid (rCheck_any hs2.ow.rw)
                            obtain ⟨er, her⟩ : ∃ er, er = chk (outL a l) := ⟨_, rfl⟩
                            rw [← her] at HCK
                            have HERR := Lib.hid her
                            have KW := Lib.hid hk
                            have x0 := hs2.bq.cell 0 rfl
                            clear hk hj hjn hs hs2 HAL her HSY HU2 HU2L
                            go_wp2_with fail
                            refine HCK.out.mono ?_
                            rintro e w3 ⟨rfl, hk3⟩
                            have K3 := Lib.hid (KW.out.trans hk3)
                            have HS11 := Lib.hid (HS10.out.keep hk3)
                            have xo := (HBO.out.keep K3.out).cell 0 rfl; have fo := (HBO.out.keep K3.out).free 0
                            clear hk3 x0 HCK
                            by_cases he : er = 0
                            · subst he
                              have HEE : Hid (aplA a l = (0, outL a l)) := Lib.hid (aE0 HOK.out HWL.out HNTL.out HAT.out HNH.out HPA6.out HERR.out.symm)
                              have x0 := HS11.out.bq.cell 0 rfl
                              clear HERR
                              go_wp2_with fail
                              exact FIN0.out _ W5 w3 pq _ _ rfl rfl rfl HKB.out HS11.out HEE.out
                            · have hx2 : ((er : Int) != 0) = true := by rw [bne_iff_ne]; omega
                              have HEE : Hid (aplA a l = (1, [])) := Lib.hid (aE7 HOK.out HWL.out HNTL.out HAT.out HNH.out HPA6.out (by rw [← HERR.out]; exact he))
                              clear HERR he
                              go_wp2_with fail
                              exact FINE.out 1 _ _ rfl rfl rfl K3.out HEE.out
  · have hx2 : ((er : Int) != 0) = true := by rw [bne_iff_ne]; omega
    have xo := (HBO.out.keep hk1).cell 0 rfl; have fo := (HBO.out.keep hk1).free 0
    have HEE : Hid (aplA a l = (1, [])) := Lib.hid (aE1 (by rw [← HER.out]; exact he))
    clear he hk1 HER
    go_wp2_with fail
    exact FINE.out 1 _ _ rfl rfl rfl HK1.out HEE.out
end By
end Go.Proofs.YtfobogcccbddbaaGreatDoor

