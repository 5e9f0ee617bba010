/- The law on damaged frames: it returns true for all bytes, and leaves what was there. No condition. -/
import Derived.Test.YtnjgnmfngcifpaaWFrs
import Derived.Test.YtnjgnmfngcifpaaWTape
import Derived.Test.YtnjgnmfngcifpaaWRefS
namespace Go.Proofs.Ytnjgnmfngcifpaa
namespace By
open Go.RowKit Go.Shelf WireN
set_option linter.unusedVariables false
set_option linter.unusedSimpArgs false

theorem cut_to' {w : World} {ao : Option Addr} {len cap : Nat} {xs : List Nat} (h : Sl w (.slice ao len cap) xs) (k : Nat) (hk : k ≤ len) : Sl w (.slice ao k cap) (xs.take k) := by
  obtain ⟨⟨ao', cap', e, h2, h3, h4, h5⟩, hl, hs⟩ := h
  simp only [Value.slice.injEq] at e
  obtain ⟨rfl, rfl, rfl⟩ := e
  have e : (xs.take k).length = k := by rw [List.length_take]; omega
  exact ⟨⟨ao, cap, by rw [e], by omega, h3, h4.take k, h5⟩, hl.take k, by omega⟩
theorem xor8 (a b : Nat) (ha : a < 256) (hb : b < 256) : bits .xor .u8 (a : Int) (b : Int) = ((a ^^^ b : Nat) : Int) ∧ a ^^^ b < 256 := by
  have hx : a ^^^ b < 2 ^ 8 := Nat.xor_lt_two_pow (by omega) (by omega)
  have e : ∀ n : Nat, n < 256 → (BitVec.ofInt 8 (n : Int)).toNat = n := fun n h => by
    rw [BitVec.ofInt_natCast, BitVec.toNat_ofNat]; exact Nat.mod_eq_of_lt (by omega)
  refine ⟨?_, by omega⟩
  show IntKind.u8.wrap ((BitVec.ofInt 8 (a : Int) ^^^ BitVec.ofInt 8 (b : Int)).toNat : Int) = _
  rw [BitVec.toNat_xor, e a ha, e b hb]
  show ((a ^^^ b : Nat) : Int) % 256 = _
  omega
theorem xor_ne {a b : Nat} (h : b ≠ 0) : a ^^^ b ≠ a := by
  intro e
  apply h
  have : a ^^^ (a ^^^ b) = a ^^^ a := by rw [e]
  rwa [← Nat.xor_assoc, Nat.xor_self, Nat.zero_xor] at this
/-- A byte of memory of the call's own is stored. -/
theorem Own.put {w wr : World} {ao : Option Addr} {n cap : Nat} {zs : List Nat} (h : Own w wr (.slice ao n cap) zs) (i : Nat) (hi : i < zs.length) (hs : zs.length ≤ 1000000) :
    ∃ g, ao = some ⟨g, 0, none⟩ ∧ w.heap.size ≤ g ∧ wr.cell? ⟨g, i, none⟩ = some (.int .u8 (zs[i]?.getD 0 : Nat)) ∧ wr.frozen? ⟨g, i, none⟩ = false ∧
      ∀ d : Nat, d < 256 → Sl (wr.setCell ⟨g, i, none⟩ (.int .u8 (d : Nat))) (.slice ao n cap) (zs.set i d) ∧ Kp w (wr.setCell ⟨g, i, none⟩ (.int .u8 (d : Nat))) := by
  obtain ⟨g, cap', cur, e, hb, hnc, hcm, hg, hsz, htake⟩ := h.parts (by omega)
  injection e with e1 e2 e3
  subst e1 e2 e3
  have hcur : ∀ j, j < zs.length → cur[j]? = some (.int .u8 (zs[j]?.getD 0 : Nat)) := by
    intro j hj
    have h1 : (cur.toList.take zs.length)[j]? = (U zs)[j]? := by rw [htake]
    rw [List.getElem?_take, if_pos hj] at h1
    rw [← Array.getElem?_toList, h1]
    simp [U, List.getElem?_eq_getElem hj]
  refine ⟨g, rfl, hb, ?_, frozen_of_row wr g i _ _ hg, fun d hd => ⟨?_, ?_⟩⟩
  · rw [cell_of_row wr g i _ _ (0, 0) hg]; exact hcur i hi
  · refine ⟨⟨some ⟨g, 0, none⟩, cap, by rw [List.length_set], by rw [List.length_set]; exact hnc, hcm, .inr ⟨g, 0, rfl, fun j hj => ?_⟩, fun h => nomatch h⟩, h.lt.set i d hd, by rw [List.length_set]; omega⟩
    rw [List.length_set] at hj
    rw [Nat.zero_add, cell_of_row _ g j _ _ (0, 0) (heap_setCell_same wr g i _ _ _ hg)]
    by_cases hji : j = i
    · subst hji
      rw [Array.getElem?_setIfInBounds, if_pos rfl, if_pos (by omega), List.getElem?_set_self hj]
      rfl
    · rw [Array.getElem?_setIfInBounds, if_neg (fun e => hji e.symm), hcur j hj, List.getElem?_set_ne (fun e => hji e.symm)]
  · exact Only.kp h.kp (Only.set (Only.refl g wr) i _) hb
/-- The answer of Frames for two equal frames. -/
theorem two_is {k : Nat} {p : List Nat} (hk : k ≠ 0) (hp : p.length ≤ 2097152) {w w' : World} {e : Ending} (h : FrmR (fr k p ++ fr k p) w e w') :
    ∃ (g c : Nat) (a1 : Option Addr) (l1 c1 : Nat), e = .returned (.tuple #[.slice (some ⟨g, 0, none⟩) 2 c, .int .i64 ((2 * (fr k p).length : Nat) : Int), .int .i64 0]) ∧ w'.cell? ⟨g, 3, none⟩ = some (.slice a1 l1 c1) ∧ Sl w' (.slice a1 l1 c1) p ∧ Kp w w' ∧ 2 ≤ c := by
  obtain ⟨fs, vps, q, E, vo, hst, rfl, hfr⟩ := h.ex
  have hc := Chain.copies (k := k) hk hp [] 2 []
  simp only [List.nil_append, List.length_nil, Nat.zero_add, List.append_nil, List.replicate_succ, List.replicate_zero, List.flatten_cons, List.flatten_nil] at hc
  obtain ⟨rfl, rfl, rfl⟩ := Chain.unique hfr.ch hst hc (.inl ⟨by rw [List.length_append]; omega, rfl⟩)
  have hln := hfr.ln
  obtain ⟨v0, v1, rfl⟩ : ∃ v0 v1, vps = [v0, v1] := by
    match vps, hln with
    | [a, b], _ => exact ⟨a, b, rfl⟩
  have hs1 := (hfr.sl 1 (k, p) v1 rfl rfl).1
  obtain ⟨a1, c1, rfl, -, -, -⟩ := hs1.open3
  rcases hfr.own.2 with ⟨e1, e2⟩ | ⟨g, cap, cur, hv, hb, hg, hnc, hcm, hsz, htake⟩
  · simp at e2
  · refine ⟨g, cap, a1, _, c1, by rw [hv]; rfl, ?_, hs1, h.kp, hnc⟩
    rw [cell_of_row w' g 3 _ _ (0, 0) hg, ← Array.getElem?_toList]
    have h1 : (cur.toList.take 4)[3]? = (fcells [(k, p), (k, p)] [v0, .slice a1 p.length c1])[3]? := by
      have := congrArg (fun l : List Value => l[3]?) htake
      exact this
    rw [List.getElem?_take, if_pos (by omega)] at h1
    exact h1
theorem fr_le {k : Nat} {p : List Nat} (h : p.length ≤ 300) : (fr k p).length ≤ 310 ∧ 7 ≤ (fr k p).length := by
  rw [fr_len]
  by_cases h1 : p.length < 128
  · rw [uv_lt h1]; simp; omega
  · rw [uv_ge (by omega), uv_lt (by omega)]; simp; omega

set_option maxRecDepth 100000 in
set_option maxHeartbeats 2000000 in
theorem damage_a {v : Value} {xs : List Nat} {w : World} (hs : Sl w v xs) (kd : Nat) (hkd : kd < 256) (at' : Int) (hat : -9223372036854775808 ≤ at' ∧ at' ≤ 9223372036854775807) (by' : Nat) (hb : by' < 256) (hlen : xs.length ≤ 300) :
    Calls Try.prog 4 #[v, .int .u8 kd, .int .i64 at', .int .u8 by'] w fun e w' => e = .returned (.bool true) ∧ Kp w w' := by
  obtain ⟨ao, cap, rfl, -, -, -⟩ := hs.open3
  obtain ⟨len, hl⟩ : ∃ len, len = xs.length := ⟨_, rfl⟩
  rw [← hl] at hs hlen ⊢
  obtain ⟨ys, hys⟩ : ∃ ys, ys = xs := ⟨_, rfl⟩
  rw [← hys] at hs hl
  clear hys
  have HS := Lib.hid hs; have HL := Lib.hid hl; have HAT := Lib.hid hat; have HB := Lib.hid hb
  have HY : Hid (ys.length ≤ 300) := Lib.hid (by omega)
  obtain ⟨K, hK⟩ : ∃ K : Nat, K = 1 + kd % 255 := ⟨_, rfl⟩
  have hK1 : 1 ≤ K ∧ K ≤ 255 := by omega
  have eK : (1 : Int) + (kd : Int) % 255 = (K : Int) := by omega
  have HK := Lib.hid hK1
  have HBN := Lib.hid (xor8)
  clear hs hl hat hb hK hK1
  go_enter Try.func4, Try.ntmps4
  go_wp2_with fail
  clear eK
  refine (Frame_ok (k := K) HS.out HK.out.1 HK.out.2 (by have := HY.out; omega)).mono ?_
  rintro e w1 ⟨⟨v1, rfl, hs1, hn1⟩, hk1⟩
  obtain ⟨ao1, c1, rfl, hlc1, -, -⟩ := hs1.open3
  obtain ⟨F, hF⟩ : ∃ F, F = fr K ys := ⟨_, rfl⟩
  obtain ⟨fl, hfl⟩ : ∃ fl, fl = F.length := ⟨_, rfl⟩
  have hfb := fr_le (k := K) HY.out
  rw [← hF, ← hfl] at hs1 hfb hlc1 ⊢
  have HS1 := Lib.hid hs1; have HK1 := Lib.hid hk1; have HF := Lib.hid hF; have HFL := Lib.hid hfl; have HFB := Lib.hid hfb
  have hf7 : (7 : Int) ≤ (fl : Int) := by omega
  clear hs1 hn1 hk1 hF hfl hfb
  go_wp2_with fail
  refine (Fold_any at' HAT.out fl (by have := HFB.out; omega) (by have := HFB.out; omega) _).mono ?_
  rintro e w' ⟨⟨r, hr, rfl⟩, rfl⟩
  have HR := Lib.hid hr
  have hrc : (r : Int) ≤ (c1 : Int) := by omega
  have HT : Hid (Sl w1 (.slice ao1 r c1) (F.take r)) := cut_to' HS1.out r (by omega)
  have HTE : Hid ((nx (F.take r) ((0 : Nat) : Int)).2.2.2 ≠ 0) := Lib.hid (by rw [HF.out]; exact fr_begin (by have := HK.out; omega) (by have := HY.out; omega) (by rw [← HF.out, ← HFL.out]; exact hr))
  clear hr hlc1
  go_wp2_with fail
  refine (Next_in HT.out 0 (by omega)).mono ?_
  rintro e w2 ⟨⟨vp, he, hs2, hn2⟩, hk2⟩
  obtain ⟨E, hE⟩ : ∃ E, E = (nx (F.take r) ((0 : Nat) : Int)).2.2.2 := ⟨_, rfl⟩
  obtain ⟨NX, hNX⟩ : ∃ NX, NX = (nx (F.take r) ((0 : Nat) : Int)).2.2.1 := ⟨_, rfl⟩
  obtain ⟨K2, hK2⟩ : ∃ K2, K2 = (nx (F.take r) ((0 : Nat) : Int)).1 := ⟨_, rfl⟩
  obtain ⟨ao2, c2, rfl, -, -, -⟩ := hs2.open3
  obtain ⟨l2, hl2⟩ : ∃ l2, l2 = (nx (F.take r) ((0 : Nat) : Int)).2.1.length := ⟨_, rfl⟩
  rw [← hE, ← hNX, ← hK2, ← hl2] at he
  subst he
  have hE0 : E ≠ 0 := hE ▸ HTE.out
  have hEb : ((E : Int) == 0) = false := beq_eq_false_iff_ne.2 (by omega)
  have HK2 := Lib.hid (Kp.trans HK1.out hk2)
  clear hs2 hn2 hE hNX hK2 hl2 hE0
  obtain ⟨wb, hwb⟩ : ∃ wb, wb = w2.alloc (.cells #[.int .i64 (K2 : Nat), .slice ao2 l2 c2] 27) := ⟨_, rfl⟩
  have hkb : Kp w2 wb := hwb ▸ kp_alloc _ _
  have HKB := Lib.hid (Kp.trans HK2.out hkb)
  have HSB := Lib.hid (HS1.out.keep (Kp.trans hk2 hkb))
  have HWB := Lib.hid hwb
  clear hk2 hkb hwb
  go_wp2_with (at_builtin; rw [← HWB.out]; refine wpList_ap (w := wb) rfl (.const (.slice none 0 0)) (.tmp 56) 22 rfl Try.underlying22 _ _ [] F rfl rfl (Own.start wb) HSB.out (by have := HFL.out; have := HFB.out; simp; omega) ?_)
  intro v3 w3 ho3
  replace ho3 : Own wb w3 v3 F := ho3
  have HO3 := Lib.hid ho3
  have HSB3 := Lib.hid (HSB.out.keep ho3.kp)
  obtain ⟨ao3, c3, e3, -, -⟩ := ho3.form
  rw [← HFL.out] at e3
  subst e3
  clear ho3
  go_wp2_with (at_builtin; refine wpList_ap (w := wb) rfl (.tmp 57) (.tmp 58) 22 rfl Try.underlying22 _ _ F F rfl rfl HO3.out HSB3.out (by have := HFL.out; have := HFB.out; omega) ?_)
  intro v4 w4 ho4
  have hs4 := ho4.sl (by have := HFL.out; have := HFB.out; simp; omega)
  obtain ⟨ao4, c4, rfl, -, -, -⟩ := hs4.open3
  have el4 : (F ++ F).length = fl + fl := by rw [List.length_append, ← HFL.out]
  rw [el4] at hs4 ⊢
  have HS4 := Lib.hid hs4; have HK4 := Lib.hid (Kp.trans HKB.out ho4.kp); have HSB4 := Lib.hid (HSB.out.keep ho4.kp)
  clear hs4 ho4 el4
  go_wp2_with fail
  refine (Frames_any HS4.out (by have := HFL.out; have := HFB.out; simp; omega)).mono ?_
  intro e w5 hfr
  obtain ⟨g5, c5, a5, l5, k5, rfl, hc5, hs5, hk5, hcc⟩ := two_is (k := K) (p := ys) (by have := HK.out; omega) (by have := HY.out; omega) (by rw [← HF.out]; exact hfr)
  rw [← HF.out, ← HFL.out]
  have e2 : ((2 * fl : Nat) : Int) = 2 * (fl : Int) := by omega
  rw [e2]
  have HS5 := Lib.hid hs5; have HK5 := Lib.hid (Kp.trans HK4.out hk5)
  have HSI := Lib.hid (HS.out.keep HK5.out)
  have hfu : (fl : Int) ≤ 310 := by have := HFB.out; omega
  have hc5i : (2 : Int) ≤ (c5 : Int) := by omega
  have HC5 : Hid (Kp w4 w5) := Lib.hid hk5
  clear hfr hs5 hk5 e2
  go_wp2_with fail
  refine (Same_any HS5.out HSI.out).mono ?_
  rintro e w' ⟨rfl, rfl⟩
  have hyy : decide (ys = ys) = true := by simp
  rw [hyy]
  clear hyy hc5
  have HSB5 := Lib.hid (HSB4.out.keep HC5.out)
  go_wp2_with (at_builtin; refine wpList_ap (w := w5) rfl (.const (.slice none 0 0)) (.tmp 87) 22 rfl Try.underlying22 _ _ [] F rfl rfl (Own.start w5) HSB5.out (by have := HFL.out; have := HFB.out; simp; omega) ?_)
  intro v6 w6 ho6
  replace ho6 : Own w5 w6 v6 F := ho6
  obtain ⟨ao6, c6, e6, -, -⟩ := ho6.form
  subst e6
  obtain ⟨g6, rfl, hg6, hc6, hf6, hput⟩ := ho6.put r (by have := HFL.out; have := HR.out; omega) (by have := HFL.out; have := HFB.out; omega)
  rw [← HFL.out] at hput ⊢
  have hxb := HS1.out.lt r
  obtain ⟨x, hx⟩ : ∃ x, x = F[r]?.getD 0 := ⟨_, rfl⟩
  rw [← hx] at hc6 hxb
  obtain ⟨hxor, hyb⟩ := xor8 x by' hxb HB.out
  have HXN : Hid (by' ≠ 0 → x ^^^ by' ≠ x) := Lib.hid (fun h => xor_ne h)
  obtain ⟨y, hy⟩ : ∃ y, y = x ^^^ by' := ⟨_, rfl⟩
  rw [← hy] at hxor hyb HXN
  obtain ⟨hs7, hk7⟩ := hput y hyb
  have HS7 := Lib.hid hs7; have HK7 := Lib.hid (Kp.trans HK5.out hk7); have HYB := Lib.hid hyb; have HXE := Lib.hid hx
  have hrf : (r : Int) < (fl : Int) := by have := HR.out; omega
  clear hput hs7 hk7 hx hy hyb ho6 hg6
  by_cases hby : by' = 0
  · have hb1 : ((by' : Int) == 0) = true := by rw [hby]; rfl
    clear hby
    go_wp2_with fail
    refine (awake_any _).mono ?_
    rintro e w8 ⟨rfl, hk8⟩
    have HK8 := Lib.hid (Kp.trans HK7.out hk8)
    clear hk8
    go_wp2_with fail
    go_ret
    exact ⟨rfl, HK8.out⟩
  · have hb1 : ((by' : Int) == 0) = false := beq_eq_false_iff_ne.2 (by omega)
    have HYN : Hid (y ≠ x) := Lib.hid (HXN.out hby)
    clear hby
    go_wp2_with fail
    clear hc6 hf6 hxor hb1
    refine (Next_in HS7.out 0 (by omega)).mono ?_
    rintro e w8 ⟨⟨vp8, he, hs8, hn8⟩, hk8⟩
    have hdm := fr_damage (k := K) (p := ys) (a := r) (y := y) (by have := HK.out; omega) (by have := HK.out; omega) (by have := HY.out; omega) HS.out.lt (by rw [← HF.out, ← HFL.out]; exact HR.out) HYB.out (by rw [← HF.out, ← HXE.out]; exact HYN.out)
    rw [← HF.out, ← HFL.out] at hdm
    obtain ⟨E8, hE8⟩ : ∃ E8, E8 = (nx (F.set r y) ((0 : Nat) : Int)).2.2.2 := ⟨_, rfl⟩
    obtain ⟨N8, hN8⟩ : ∃ N8, N8 = (nx (F.set r y) ((0 : Nat) : Int)).2.2.1 := ⟨_, rfl⟩
    obtain ⟨K8, hK8⟩ : ∃ K8, K8 = (nx (F.set r y) ((0 : Nat) : Int)).1 := ⟨_, rfl⟩
    obtain ⟨ao8, c8, rfl, -, -, -⟩ := hs8.open3
    obtain ⟨l8, hl8⟩ : ∃ l8, l8 = (nx (F.set r y) ((0 : Nat) : Int)).2.1.length := ⟨_, rfl⟩
    rw [← hE8, ← hN8, ← hK8, ← hl8] at he
    rw [← hE8, ← hN8] at hdm
    subst he
    have HK8 := Lib.hid (Kp.trans (Kp.trans HK7.out hk8) (kp_alloc w8 (.cells #[.int .i64 (K8 : Nat), .slice ao8 l8 c8] 27)))
    clear hs8 hn8 hE8 hN8 hK8 hl8 hk8
    by_cases h0 : E8 = 0
    · subst h0
      have hne : N8 ≠ fl := by omega
      have hq1 : ((N8 : Int) == (fl : Int)) = false := beq_eq_false_iff_ne.2 (by omega)
      have hq2 : ((N8 : Int) != (fl : Int)) = true := by rw [bne_iff_ne]; omega
      clear hdm hne
      go_wp2_with fail
      refine (awake_any _).mono ?_
      rintro e w9 ⟨rfl, hk9⟩
      have HK9 := Lib.hid (Kp.trans HK8.out hk9)
      clear hk9
      go_wp2_with fail
      go_ret
      exact ⟨rfl, HK9.out⟩
    · have hq1 : ((E8 : Int) == 0) = false := beq_eq_false_iff_ne.2 (by omega)
      have hq2 : ((E8 : Int) != 0) = true := by rw [bne_iff_ne]; omega
      clear hdm h0
      go_wp2_with fail
      refine (awake_any _).mono ?_
      rintro e w9 ⟨rfl, hk9⟩
      have HK9 := Lib.hid (Kp.trans HK8.out hk9)
      clear hk9
      go_wp2_with fail
      go_ret
      exact ⟨rfl, HK9.out⟩

set_option maxRecDepth 100000 in
set_option maxHeartbeats 2000000 in
theorem damage_b {v : Value} {xs : List Nat} {w : World} (hs : Sl w v xs) (kd : Nat) (hkd : kd < 256) (at' : Int) (hat : -9223372036854775808 ≤ at' ∧ at' ≤ 9223372036854775807) (by' : Nat) (hb : by' < 256) (hlen : 300 < xs.length) :
    Calls Try.prog 4 #[v, .int .u8 kd, .int .i64 at', .int .u8 by'] w fun e w' => e = .returned (.bool true) ∧ Kp w w' := by
  obtain ⟨ao, cap, rfl, hcl, -, -⟩ := hs.open3
  have hsv := cut_to' hs 300 (by omega)
  obtain ⟨len, hl0⟩ : ∃ len, len = xs.length := ⟨_, rfl⟩
  rw [← hl0] at hlen hcl ⊢
  obtain ⟨ys, hys⟩ : ∃ ys, ys = xs.take 300 := ⟨_, rfl⟩
  have hl : 300 = ys.length := by rw [hys, List.length_take]; omega
  rw [← hys] at hsv
  have hcl2 : (len : Int) ≤ cap := by omega
  have hlen2 : (300 : Int) < len := by omega
  clear hs hys hl0
  have hs := hsv
  clear hsv
  have HS := Lib.hid hs; have HL := Lib.hid hl; have HAT := Lib.hid hat; have HB := Lib.hid hb
  have HY : Hid (ys.length ≤ 300) := Lib.hid (by omega)
  obtain ⟨K, hK⟩ : ∃ K : Nat, K = 1 + kd % 255 := ⟨_, rfl⟩
  have hK1 : 1 ≤ K ∧ K ≤ 255 := by omega
  have eK : (1 : Int) + (kd : Int) % 255 = (K : Int) := by omega
  have HK := Lib.hid hK1
  have HBN := Lib.hid (xor8)
  clear hs hl hat hb hK hK1
  go_enter Try.func4, Try.ntmps4
  go_wp2_with fail
  clear eK
  refine (Frame_ok (k := K) HS.out HK.out.1 HK.out.2 (by have := HY.out; omega)).mono ?_
  rintro e w1 ⟨⟨v1, rfl, hs1, hn1⟩, hk1⟩
  obtain ⟨ao1, c1, rfl, hlc1, -, -⟩ := hs1.open3
  obtain ⟨F, hF⟩ : ∃ F, F = fr K ys := ⟨_, rfl⟩
  obtain ⟨fl, hfl⟩ : ∃ fl, fl = F.length := ⟨_, rfl⟩
  have hfb := fr_le (k := K) HY.out
  rw [← hF, ← hfl] at hs1 hfb hlc1 ⊢
  have HS1 := Lib.hid hs1; have HK1 := Lib.hid hk1; have HF := Lib.hid hF; have HFL := Lib.hid hfl; have HFB := Lib.hid hfb
  have hf7 : (7 : Int) ≤ (fl : Int) := by omega
  clear hs1 hn1 hk1 hF hfl hfb
  go_wp2_with fail
  refine (Fold_any at' HAT.out fl (by have := HFB.out; omega) (by have := HFB.out; omega) _).mono ?_
  rintro e w' ⟨⟨r, hr, rfl⟩, rfl⟩
  have HR := Lib.hid hr
  have hrc : (r : Int) ≤ (c1 : Int) := by omega
  have HT : Hid (Sl w1 (.slice ao1 r c1) (F.take r)) := cut_to' HS1.out r (by omega)
  have HTE : Hid ((nx (F.take r) ((0 : Nat) : Int)).2.2.2 ≠ 0) := Lib.hid (by rw [HF.out]; exact fr_begin (by have := HK.out; omega) (by have := HY.out; omega) (by rw [← HF.out, ← HFL.out]; exact hr))
  clear hr hlc1
  go_wp2_with fail
  refine (Next_in HT.out 0 (by omega)).mono ?_
  rintro e w2 ⟨⟨vp, he, hs2, hn2⟩, hk2⟩
  obtain ⟨E, hE⟩ : ∃ E, E = (nx (F.take r) ((0 : Nat) : Int)).2.2.2 := ⟨_, rfl⟩
  obtain ⟨NX, hNX⟩ : ∃ NX, NX = (nx (F.take r) ((0 : Nat) : Int)).2.2.1 := ⟨_, rfl⟩
  obtain ⟨K2, hK2⟩ : ∃ K2, K2 = (nx (F.take r) ((0 : Nat) : Int)).1 := ⟨_, rfl⟩
  obtain ⟨ao2, c2, rfl, -, -, -⟩ := hs2.open3
  obtain ⟨l2, hl2⟩ : ∃ l2, l2 = (nx (F.take r) ((0 : Nat) : Int)).2.1.length := ⟨_, rfl⟩
  rw [← hE, ← hNX, ← hK2, ← hl2] at he
  subst he
  have hE0 : E ≠ 0 := hE ▸ HTE.out
  have hEb : ((E : Int) == 0) = false := beq_eq_false_iff_ne.2 (by omega)
  have HK2 := Lib.hid (Kp.trans HK1.out hk2)
  clear hs2 hn2 hE hNX hK2 hl2 hE0
  obtain ⟨wb, hwb⟩ : ∃ wb, wb = w2.alloc (.cells #[.int .i64 (K2 : Nat), .slice ao2 l2 c2] 27) := ⟨_, rfl⟩
  have hkb : Kp w2 wb := hwb ▸ kp_alloc _ _
  have HKB := Lib.hid (Kp.trans HK2.out hkb)
  have HSB := Lib.hid (HS1.out.keep (Kp.trans hk2 hkb))
  have HWB := Lib.hid hwb
  clear hk2 hkb hwb
  go_wp2_with (at_builtin; rw [← HWB.out]; refine wpList_ap (w := wb) rfl (.const (.slice none 0 0)) (.tmp 56) 22 rfl Try.underlying22 _ _ [] F rfl rfl (Own.start wb) HSB.out (by have := HFL.out; have := HFB.out; simp; omega) ?_)
  intro v3 w3 ho3
  replace ho3 : Own wb w3 v3 F := ho3
  have HO3 := Lib.hid ho3
  have HSB3 := Lib.hid (HSB.out.keep ho3.kp)
  obtain ⟨ao3, c3, e3, -, -⟩ := ho3.form
  rw [← HFL.out] at e3
  subst e3
  clear ho3
  go_wp2_with (at_builtin; refine wpList_ap (w := wb) rfl (.tmp 57) (.tmp 58) 22 rfl Try.underlying22 _ _ F F rfl rfl HO3.out HSB3.out (by have := HFL.out; have := HFB.out; omega) ?_)
  intro v4 w4 ho4
  have hs4 := ho4.sl (by have := HFL.out; have := HFB.out; simp; omega)
  obtain ⟨ao4, c4, rfl, -, -, -⟩ := hs4.open3
  have el4 : (F ++ F).length = fl + fl := by rw [List.length_append, ← HFL.out]
  rw [el4] at hs4 ⊢
  have HS4 := Lib.hid hs4; have HK4 := Lib.hid (Kp.trans HKB.out ho4.kp); have HSB4 := Lib.hid (HSB.out.keep ho4.kp)
  clear hs4 ho4 el4
  go_wp2_with fail
  refine (Frames_any HS4.out (by have := HFL.out; have := HFB.out; simp; omega)).mono ?_
  intro e w5 hfr
  obtain ⟨g5, c5, a5, l5, k5, rfl, hc5, hs5, hk5, hcc⟩ := two_is (k := K) (p := ys) (by have := HK.out; omega) (by have := HY.out; omega) (by rw [← HF.out]; exact hfr)
  rw [← HF.out, ← HFL.out]
  have e2 : ((2 * fl : Nat) : Int) = 2 * (fl : Int) := by omega
  rw [e2]
  have HS5 := Lib.hid hs5; have HK5 := Lib.hid (Kp.trans HK4.out hk5)
  have HSI := Lib.hid (HS.out.keep HK5.out)
  have hfu : (fl : Int) ≤ 310 := by have := HFB.out; omega
  have hc5i : (2 : Int) ≤ (c5 : Int) := by omega
  have HC5 : Hid (Kp w4 w5) := Lib.hid hk5
  clear hfr hs5 hk5 e2
  go_wp2_with fail
  refine (Same_any HS5.out HSI.out).mono ?_
  rintro e w' ⟨rfl, rfl⟩
  have hyy : decide (ys = ys) = true := by simp
  rw [hyy]
  clear hyy hc5
  have HSB5 := Lib.hid (HSB4.out.keep HC5.out)
  go_wp2_with (at_builtin; refine wpList_ap (w := w5) rfl (.const (.slice none 0 0)) (.tmp 87) 22 rfl Try.underlying22 _ _ [] F rfl rfl (Own.start w5) HSB5.out (by have := HFL.out; have := HFB.out; simp; omega) ?_)
  intro v6 w6 ho6
  replace ho6 : Own w5 w6 v6 F := ho6
  obtain ⟨ao6, c6, e6, -, -⟩ := ho6.form
  subst e6
  obtain ⟨g6, rfl, hg6, hc6, hf6, hput⟩ := ho6.put r (by have := HFL.out; have := HR.out; omega) (by have := HFL.out; have := HFB.out; omega)
  rw [← HFL.out] at hput ⊢
  have hxb := HS1.out.lt r
  obtain ⟨x, hx⟩ : ∃ x, x = F[r]?.getD 0 := ⟨_, rfl⟩
  rw [← hx] at hc6 hxb
  obtain ⟨hxor, hyb⟩ := xor8 x by' hxb HB.out
  have HXN : Hid (by' ≠ 0 → x ^^^ by' ≠ x) := Lib.hid (fun h => xor_ne h)
  obtain ⟨y, hy⟩ : ∃ y, y = x ^^^ by' := ⟨_, rfl⟩
  rw [← hy] at hxor hyb HXN
  obtain ⟨hs7, hk7⟩ := hput y hyb
  have HS7 := Lib.hid hs7; have HK7 := Lib.hid (Kp.trans HK5.out hk7); have HYB := Lib.hid hyb; have HXE := Lib.hid hx
  have hrf : (r : Int) < (fl : Int) := by have := HR.out; omega
  clear hput hs7 hk7 hx hy hyb ho6 hg6
  by_cases hby : by' = 0
  · have hb1 : ((by' : Int) == 0) = true := by rw [hby]; rfl
    clear hby
    go_wp2_with fail
    refine (awake_any _).mono ?_
    rintro e w8 ⟨rfl, hk8⟩
    have HK8 := Lib.hid (Kp.trans HK7.out hk8)
    clear hk8
    go_wp2_with fail
    go_ret
    exact ⟨rfl, HK8.out⟩
  · have hb1 : ((by' : Int) == 0) = false := beq_eq_false_iff_ne.2 (by omega)
    have HYN : Hid (y ≠ x) := Lib.hid (HXN.out hby)
    clear hby
    go_wp2_with fail
    clear hc6 hf6 hxor hb1
    refine (Next_in HS7.out 0 (by omega)).mono ?_
    rintro e w8 ⟨⟨vp8, he, hs8, hn8⟩, hk8⟩
    have hdm := fr_damage (k := K) (p := ys) (a := r) (y := y) (by have := HK.out; omega) (by have := HK.out; omega) (by have := HY.out; omega) HS.out.lt (by rw [← HF.out, ← HFL.out]; exact HR.out) HYB.out (by rw [← HF.out, ← HXE.out]; exact HYN.out)
    rw [← HF.out, ← HFL.out] at hdm
    obtain ⟨E8, hE8⟩ : ∃ E8, E8 = (nx (F.set r y) ((0 : Nat) : Int)).2.2.2 := ⟨_, rfl⟩
    obtain ⟨N8, hN8⟩ : ∃ N8, N8 = (nx (F.set r y) ((0 : Nat) : Int)).2.2.1 := ⟨_, rfl⟩
    obtain ⟨K8, hK8⟩ : ∃ K8, K8 = (nx (F.set r y) ((0 : Nat) : Int)).1 := ⟨_, rfl⟩
    obtain ⟨ao8, c8, rfl, -, -, -⟩ := hs8.open3
    obtain ⟨l8, hl8⟩ : ∃ l8, l8 = (nx (F.set r y) ((0 : Nat) : Int)).2.1.length := ⟨_, rfl⟩
    rw [← hE8, ← hN8, ← hK8, ← hl8] at he
    rw [← hE8, ← hN8] at hdm
    subst he
    have HK8 := Lib.hid (Kp.trans (Kp.trans HK7.out hk8) (kp_alloc w8 (.cells #[.int .i64 (K8 : Nat), .slice ao8 l8 c8] 27)))
    clear hs8 hn8 hE8 hN8 hK8 hl8 hk8
    by_cases h0 : E8 = 0
    · subst h0
      have hne : N8 ≠ fl := by omega
      have hq1 : ((N8 : Int) == (fl : Int)) = false := beq_eq_false_iff_ne.2 (by omega)
      have hq2 : ((N8 : Int) != (fl : Int)) = true := by rw [bne_iff_ne]; omega
      clear hdm hne
      go_wp2_with fail
      refine (awake_any _).mono ?_
      rintro e w9 ⟨rfl, hk9⟩
      have HK9 := Lib.hid (Kp.trans HK8.out hk9)
      clear hk9
      go_wp2_with fail
      go_ret
      exact ⟨rfl, HK9.out⟩
    · have hq1 : ((E8 : Int) == 0) = false := beq_eq_false_iff_ne.2 (by omega)
      have hq2 : ((E8 : Int) != 0) = true := by rw [bne_iff_ne]; omega
      clear hdm h0
      go_wp2_with fail
      refine (awake_any _).mono ?_
      rintro e w9 ⟨rfl, hk9⟩
      have HK9 := Lib.hid (Kp.trans HK8.out hk9)
      clear hk9
      go_wp2_with fail
      go_ret
      exact ⟨rfl, HK9.out⟩
theorem damage_any {v : Value} {xs : List Nat} {w : World} (hs : Sl w v xs) (kd : Nat) (hkd : kd < 256) (at' : Int) (hat : -9223372036854775808 ≤ at' ∧ at' ≤ 9223372036854775807) (by' : Nat) (hb : by' < 256) :
    Calls Try.prog 4 #[v, .int .u8 kd, .int .i64 at', .int .u8 by'] w fun e w' => e = .returned (.bool true) ∧ Kp w w' := by
  by_cases hlen : xs.length ≤ 300
  · exact damage_a hs kd hkd at' hat by' hb hlen
  · exact damage_b hs kd hkd at' hat by' hb (by omega)
end By
end Go.Proofs.Ytnjgnmfngcifpaa
