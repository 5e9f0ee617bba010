/- The law on frames before a damaged one: it returns true for all bytes, and leaves what was there. No condition. -/
import Derived.Test.YtnjgnmfngcifpaaWFrs
import Derived.Test.YtnjgnmfngcifpaaWAwake
namespace Go.Proofs.Ytnjgnmfngcifpaa
namespace By
open Go.RowKit Go.Shelf WireN
set_option linter.unusedVariables false
set_option linter.unusedSimpArgs false

/-- The answer of Frames for k equal frames and a byte that begins none. -/
theorem stops_is {k b : Nat} {p : List Nat} (hp : p.length ≤ 2097152) (hb : b ≠ 247) {w w' : World} {e : Ending} (h : FrmR ((List.replicate k (fr 7 p)).flatten ++ [b]) w e w') :
    ∃ (vo : Value) (c : Nat) (ao : Option Addr), vo = .slice ao k c ∧ e = .returned (.tuple #[vo, .int .i64 ((k * (fr 7 p).length : Nat) : Int), .int .i64 6]) ∧ Kp w w' := by
  obtain ⟨fs, vps, q, E, vo, hst, rfl, hfr⟩ := h.ex
  have hc := Chain.copies (k := 7) (by omega) hp [b] k []
  simp only [List.nil_append, List.length_nil, Nat.zero_add] at hc
  have hl : ((List.replicate k (fr 7 p)).flatten ++ [b]).length = k * (fr 7 p).length + 1 := by simp
  have hm := nx_mark (l := (List.replicate k (fr 7 p)).flatten ++ [b]) (i := k * (fr 7 p).length) (by rw [hl]; omega) (by
    rw [List.getElem?_append_right (by simp)]
    simpa using hb)
  obtain ⟨rfl, rfl, rfl⟩ := Chain.unique hfr.ch hst hc (.inr ⟨by rw [hl]; omega, (show (6 : Nat) ≠ 0 by decide), by rw [hm]⟩)
  have hf := (row_form hfr.own).1
  obtain ⟨a1, l1, c1, rfl⟩ := hf
  have hlen : l1 = k := by
    rcases hfr.own.2 with ⟨e1, e2⟩ | ⟨g, cap, cur, e1, -⟩
    · injection e1 with e1 e3 e4; simp at e2; omega
    · injection e1 with e1 e3 e4; simpa using e3
  subst hlen
  exact ⟨_, c1, a1, rfl, rfl, h.kp⟩

theorem cut_to {w : World} {ao : Option Addr} {len cap : Nat} {xs : List Nat} (h : Sl w (.slice ao len cap) xs) (k : Nat) (hk : k ≤ len) : Sl w (.slice ao k cap) (xs.take k) := by
  obtain ⟨⟨ao', cap', e, h2, h3, h4, h5⟩, hl, hs⟩ := h
  simp only [Value.slice.injEq] at e
  obtain ⟨rfl, rfl, rfl⟩ := e
  have e : (xs.take k).length = k := by rw [List.length_take]; omega
  exact ⟨⟨ao, cap, by rw [e], by omega, h3, h4.take k, h5⟩, hl.take k, by omega⟩
set_option maxRecDepth 100000 in
set_option maxHeartbeats 1000000 in
theorem stops_a {v : Value} {xs : List Nat} {w : World} (hs : Sl w v xs) (n by' : Nat) (hn : n < 256) (hb : by' < 256) (hlen : xs.length ≤ 100) :
    Calls Try.prog 5 #[v, .int .u8 n, .int .u8 by'] w fun e w' => e = .returned (.bool true) ∧ Kp w w' := by
  obtain ⟨ao, cap, rfl, -, -, -⟩ := hs.open3
  obtain ⟨len, hl⟩ : ∃ len, len = xs.length := ⟨_, rfl⟩
  rw [← hl] at hs hlen ⊢
  obtain ⟨ys, hys⟩ : ∃ ys, ys = xs := ⟨_, rfl⟩
  rw [← hys] at hs hl
  clear hys
  have HS := Lib.hid hs; have HL := Lib.hid hl; have HN := Lib.hid hn; have HB := Lib.hid hb
  clear hs hl hn hb
  go_enter Try.func5, Try.ntmps5
  go_wp2_with fail
  refine (Frame_ok (k := 7) HS.out (by omega) (by omega) (by have := HL.out; omega)).mono ?_
  rintro e w1 ⟨⟨v1, rfl, hs1, hn1⟩, hk1⟩
  obtain ⟨ao1, c1, rfl, -, -, -⟩ := hs1.open3
  obtain ⟨F, hF⟩ : ∃ F, F = fr 7 ys := ⟨_, rfl⟩
  obtain ⟨fl, hfl⟩ : ∃ fl, fl = F.length := ⟨_, rfl⟩
  rw [← hF, ← hfl] at hs1 ⊢
  have HS1 := Lib.hid hs1; have HK1 := Lib.hid hk1; have HF := Lib.hid hF; have HFL := Lib.hid hfl
  clear hs1 hn1 hk1 hF hfl
  go_wp2_with fail
  obtain ⟨m, hm⟩ : ∃ m : Nat, m = n % 6 := ⟨_, rfl⟩
  have em : (n : Int) % 6 = (m : Int) := by omega
  rw [em]
  have hm6 : m ≤ 5 := by omega
  have HM := Lib.hid hm6
  obtain ⟨b, hbb⟩ : ∃ b : Nat, b = 1 + by' % 200 := ⟨_, rfl⟩
  have HBB := Lib.hid hbb
  have HFB : Hid (fl ≤ 110) := Lib.hid (by rw [HFL.out, HF.out, fr_len, uv_lt (by have := HL.out; omega)]; have := HL.out; simp; omega)
  clear hm em hbb
  go_loopw [11, 10] (fun i vo wy => ∃ c : Nat, i = .int .i64 c ∧ c ≤ m ∧ Own w1 wy vo (List.replicate c F).flatten) (fun i _ _ => m - (intOf i).toNat)
  case atStart => exact ⟨0, rfl, Nat.zero_le _, Own.start w1⟩
  case round =>
    obtain ⟨c, rfl, hcm, hown⟩ := hrel
    rename World => wx
    have HO := Lib.hid hown; have HKX := Lib.hid hown.kp
    obtain ⟨aoo, co, ho, -, -⟩ := hown.form
    subst ho
    clear hown
    have HLQ : Hid ((List.replicate c F).flatten.length = c * fl) := Lib.hid (by simp [HFL.out])
    have HLB : Hid (c * fl ≤ 550) := Lib.hid (by have h1 := HFB.out; have h2 := HM.out; have := Nat.mul_le_mul (show c ≤ 5 by omega) h1; omega)
    have hlq := HLQ.out
    obtain ⟨q, hq⟩ : ∃ q, q = (List.replicate c F).flatten.length := ⟨_, rfl⟩
    have HQ := Lib.hid hq
    rw [← hq] at HO ⊢
    clear hlq hq
    by_cases hcm2 : c < m
    · go_wp2_with (at_builtin; refine wpList_ap (w := w1) rfl (.tmp 35) (.tmp 36) 22 rfl Try.underlying22 _ _ (List.replicate c F).flatten F rfl rfl HO.out (HS1.out.keep HKX.out) (by have := HLQ.out; have := HLB.out; have := HFB.out; have := HFL.out; omega) ?_)
      intro v2 w2 hown2
      have HO2 := Lib.hid hown2
      clear hown2
      go_wp2_with fail
      go_roundw
      case rel => exact ⟨c + 1, by simp, by omega, by have h := HO2.out; rwa [show (List.replicate c F).flatten ++ F = (List.replicate (c + 1) F).flatten by rw [List.replicate_succ', List.flatten_append]; simp] at h⟩
      case measure => simp only [intOf]; omega
    · have hce : c = m := by omega
      subst hce
      have eb : ((1 : Int) + (by' : Int) % 200) = (b : Int) := by have := HBB.out; omega
      have HONE : Hid (Sl (wx.alloc (.cells #[.int .u8 (b : Int)] 5)) (.slice (some ⟨wx.heap.size, 0, none⟩) 1 1) [b]) := Lib.hid (sl_one rfl (by have := HBB.out; omega))
      go_wp2_with (at_builtin; refine wpList_ap (w := w1) rfl (.tmp 38) (.tmp 42) 22 rfl Try.underlying22 _ _ (List.replicate c F).flatten [b] rfl rfl (HO.out.keep (kp_alloc _ _)) HONE.out (by have := HLQ.out; have := HLB.out; have := HQ.out; simp only [List.length_singleton]; omega) ?_)
      intro v2 w2 hown2
      have HXL : Hid (((List.replicate c F).flatten ++ [b]).length ≤ 1000) := Lib.hid (by have := HLQ.out; have := HLB.out; simp only [List.length_append, List.length_singleton]; omega)
      obtain ⟨X, hX⟩ : ∃ X, X = (List.replicate c F).flatten ++ [b] := ⟨_, rfl⟩
      rw [← hX] at hown2 HXL
      obtain ⟨xl, hxl⟩ : ∃ xl, xl = X.length := ⟨_, rfl⟩
      have hs2 := hown2.sl (by have := HXL.out; omega)
      obtain ⟨ao2, c2, rfl, -, -, -⟩ := hs2.open3
      rw [← hxl] at hs2 ⊢
      have HX := Lib.hid hX
      clear hX hxl
      have HS2 := Lib.hid hs2; have HK2 := Lib.hid (Kp.trans HK1.out hown2.kp)
      have HBN : Hid (b ≠ 247) := Lib.hid (by have := HBB.out; omega)
      have HFQ : Hid (q = c * fl) := Lib.hid (by rw [HQ.out, HLQ.out])
      clear hs2 hown2
      go_wp2_with fail
      refine (Frames_any HS2.out (by have := HXL.out; omega)).mono ?_
      intro e w3 hfr
      obtain ⟨vo3, c3, ao3, rfl, rfl, hk3⟩ := stops_is (p := ys) (k := c) (b := b) (by have := HL.out; omega) HBN.out (by rw [HX.out, HF.out] at hfr; exact hfr)
      obtain ⟨P, hP⟩ : ∃ P : Nat, P = c * fl := ⟨_, rfl⟩
      have hfe : (((c * (fr 7 ys).length : Nat)) : Int) = (P : Int) := by rw [hP, HFL.out, HF.out]
      rw [hfe]
      have hPP : (c : Int) * (fl : Int) = (P : Int) := by rw [hP]; simp
      have hPb : P ≤ 550 := by rw [hP]; exact HLB.out
      clear hP
      have HK3 := Lib.hid (Kp.trans HK2.out hk3)
      clear hfr hk3 hfe hcm hcm2 eb hm6
      go_wp2_with fail
      refine (awake_any _).mono ?_
      rintro e w4 ⟨rfl, hk4⟩
      have HK4 := Lib.hid (Kp.trans HK3.out hk4)
      clear hk4
      go_wp2_with fail
      go_ret
      exact ⟨rfl, HK4.out⟩
set_option maxRecDepth 100000 in
set_option maxHeartbeats 1000000 in
theorem stops_b {v : Value} {xs : List Nat} {w : World} (hs : Sl w v xs) (n by' : Nat) (hn : n < 256) (hb : by' < 256) (hlen : 100 < xs.length) :
    Calls Try.prog 5 #[v, .int .u8 n, .int .u8 by'] w fun e w' => e = .returned (.bool true) ∧ Kp w w' := by
  obtain ⟨ao, cap, rfl, hcl, -, -⟩ := hs.open3
  have hsv := cut_to hs 100 (by omega)
  obtain ⟨len, hl0⟩ : ∃ len, len = xs.length := ⟨_, rfl⟩
  rw [← hl0] at hlen hcl ⊢
  obtain ⟨ys, hys⟩ : ∃ ys, ys = xs.take 100 := ⟨_, rfl⟩
  have hl : 100 = ys.length := by rw [hys, List.length_take]; omega
  rw [← hys] at hsv
  have hcl2 : (len : Int) ≤ cap := by omega
  have hlen2 : (100 : Int) < len := by omega
  clear hs hys hl0
  have hs := hsv
  clear hsv
  have HS := Lib.hid hs; have HL := Lib.hid hl; have HN := Lib.hid hn; have HB := Lib.hid hb
  clear hs hl hn hb
  go_enter Try.func5, Try.ntmps5
  go_wp2_with fail
  refine (Frame_ok (k := 7) HS.out (by omega) (by omega) (by have := HL.out; omega)).mono ?_
  rintro e w1 ⟨⟨v1, rfl, hs1, hn1⟩, hk1⟩
  obtain ⟨ao1, c1, rfl, -, -, -⟩ := hs1.open3
  obtain ⟨F, hF⟩ : ∃ F, F = fr 7 ys := ⟨_, rfl⟩
  obtain ⟨fl, hfl⟩ : ∃ fl, fl = F.length := ⟨_, rfl⟩
  rw [← hF, ← hfl] at hs1 ⊢
  have HS1 := Lib.hid hs1; have HK1 := Lib.hid hk1; have HF := Lib.hid hF; have HFL := Lib.hid hfl
  clear hs1 hn1 hk1 hF hfl
  go_wp2_with fail
  obtain ⟨m, hm⟩ : ∃ m : Nat, m = n % 6 := ⟨_, rfl⟩
  have em : (n : Int) % 6 = (m : Int) := by omega
  rw [em]
  have hm6 : m ≤ 5 := by omega
  have HM := Lib.hid hm6
  obtain ⟨b, hbb⟩ : ∃ b : Nat, b = 1 + by' % 200 := ⟨_, rfl⟩
  have HBB := Lib.hid hbb
  have HFB : Hid (fl ≤ 110) := Lib.hid (by rw [HFL.out, HF.out, fr_len, uv_lt (by have := HL.out; omega)]; have := HL.out; simp; omega)
  clear hm em hbb
  go_loopw [11, 10] (fun i vo wy => ∃ c : Nat, i = .int .i64 c ∧ c ≤ m ∧ Own w1 wy vo (List.replicate c F).flatten) (fun i _ _ => m - (intOf i).toNat)
  case atStart => exact ⟨0, rfl, Nat.zero_le _, Own.start w1⟩
  case round =>
    obtain ⟨c, rfl, hcm, hown⟩ := hrel
    rename World => wx
    have HO := Lib.hid hown; have HKX := Lib.hid hown.kp
    obtain ⟨aoo, co, ho, -, -⟩ := hown.form
    subst ho
    clear hown
    have HLQ : Hid ((List.replicate c F).flatten.length = c * fl) := Lib.hid (by simp [HFL.out])
    have HLB : Hid (c * fl ≤ 550) := Lib.hid (by have h1 := HFB.out; have h2 := HM.out; have := Nat.mul_le_mul (show c ≤ 5 by omega) h1; omega)
    have hlq := HLQ.out
    obtain ⟨q, hq⟩ : ∃ q, q = (List.replicate c F).flatten.length := ⟨_, rfl⟩
    have HQ := Lib.hid hq
    rw [← hq] at HO ⊢
    clear hlq hq
    by_cases hcm2 : c < m
    · go_wp2_with (at_builtin; refine wpList_ap (w := w1) rfl (.tmp 35) (.tmp 36) 22 rfl Try.underlying22 _ _ (List.replicate c F).flatten F rfl rfl HO.out (HS1.out.keep HKX.out) (by have := HLQ.out; have := HLB.out; have := HFB.out; have := HFL.out; omega) ?_)
      intro v2 w2 hown2
      have HO2 := Lib.hid hown2
      clear hown2
      go_wp2_with fail
      go_roundw
      case rel => exact ⟨c + 1, by simp, by omega, by have h := HO2.out; rwa [show (List.replicate c F).flatten ++ F = (List.replicate (c + 1) F).flatten by rw [List.replicate_succ', List.flatten_append]; simp] at h⟩
      case measure => simp only [intOf]; omega
    · have hce : c = m := by omega
      subst hce
      have eb : ((1 : Int) + (by' : Int) % 200) = (b : Int) := by have := HBB.out; omega
      have HONE : Hid (Sl (wx.alloc (.cells #[.int .u8 (b : Int)] 5)) (.slice (some ⟨wx.heap.size, 0, none⟩) 1 1) [b]) := Lib.hid (sl_one rfl (by have := HBB.out; omega))
      go_wp2_with (at_builtin; refine wpList_ap (w := w1) rfl (.tmp 38) (.tmp 42) 22 rfl Try.underlying22 _ _ (List.replicate c F).flatten [b] rfl rfl (HO.out.keep (kp_alloc _ _)) HONE.out (by have := HLQ.out; have := HLB.out; have := HQ.out; simp only [List.length_singleton]; omega) ?_)
      intro v2 w2 hown2
      have HXL : Hid (((List.replicate c F).flatten ++ [b]).length ≤ 1000) := Lib.hid (by have := HLQ.out; have := HLB.out; simp only [List.length_append, List.length_singleton]; omega)
      obtain ⟨X, hX⟩ : ∃ X, X = (List.replicate c F).flatten ++ [b] := ⟨_, rfl⟩
      rw [← hX] at hown2 HXL
      obtain ⟨xl, hxl⟩ : ∃ xl, xl = X.length := ⟨_, rfl⟩
      have hs2 := hown2.sl (by have := HXL.out; omega)
      obtain ⟨ao2, c2, rfl, -, -, -⟩ := hs2.open3
      rw [← hxl] at hs2 ⊢
      have HX := Lib.hid hX
      clear hX hxl
      have HS2 := Lib.hid hs2; have HK2 := Lib.hid (Kp.trans HK1.out hown2.kp)
      have HBN : Hid (b ≠ 247) := Lib.hid (by have := HBB.out; omega)
      have HFQ : Hid (q = c * fl) := Lib.hid (by rw [HQ.out, HLQ.out])
      clear hs2 hown2
      go_wp2_with fail
      refine (Frames_any HS2.out (by have := HXL.out; omega)).mono ?_
      intro e w3 hfr
      obtain ⟨vo3, c3, ao3, rfl, rfl, hk3⟩ := stops_is (p := ys) (k := c) (b := b) (by have := HL.out; omega) HBN.out (by rw [HX.out, HF.out] at hfr; exact hfr)
      obtain ⟨P, hP⟩ : ∃ P : Nat, P = c * fl := ⟨_, rfl⟩
      have hfe : (((c * (fr 7 ys).length : Nat)) : Int) = (P : Int) := by rw [hP, HFL.out, HF.out]
      rw [hfe]
      have hPP : (c : Int) * (fl : Int) = (P : Int) := by rw [hP]; simp
      have hPb : P ≤ 550 := by rw [hP]; exact HLB.out
      clear hP
      have HK3 := Lib.hid (Kp.trans HK2.out hk3)
      clear hfr hk3 hfe hcm hcm2 eb hm6
      go_wp2_with fail
      refine (awake_any _).mono ?_
      rintro e w4 ⟨rfl, hk4⟩
      have HK4 := Lib.hid (Kp.trans HK3.out hk4)
      clear hk4
      go_wp2_with fail
      go_ret
      exact ⟨rfl, HK4.out⟩
theorem stops_any {v : Value} {xs : List Nat} {w : World} (hs : Sl w v xs) (n : Nat) (hn : n < 256) (by' : Nat) (hb : by' < 256) :
    Calls Try.prog 5 #[v, .int .u8 n, .int .u8 by'] w fun e w' => e = .returned (.bool true) ∧ Kp w w' := by
  by_cases hlen : xs.length ≤ 100
  · exact stops_a hs n by' hn hb hlen
  · exact stops_b hs n by' hn hb (by omega)
end By
end Go.Proofs.Ytnjgnmfngcifpaa
