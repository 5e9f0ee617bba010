/- The law on a revision's bytes and back: it returns true, and leaves what was there. Conditions: the slice reads as the integers that are named; a package variable of the library holds some integer. -/
import Derived.Test.YtmkijkaabcgcbaaGreatDoorMMz
import Derived.Test.YtmkijkaabcgcbaaGreatDoorRvW
import Derived.Test.YtmkijkaabcgcbaaGreatDoorMRc
namespace Go.Proofs.YtmkijkaabcgcbaaGreatDoor
namespace By
open Go.RowKit Go.Shelf WireN LexN RevN
set_option linter.unusedVariables false
set_option linter.unusedSimpArgs false

set_option maxRecDepth 100000 in
set_option maxHeartbeats 8000000 in
theorem revBack_any {zs : List Int} {v : Value} {z : Int} {w : World} (hz : SlI w v zs) (hb : -9223372036854775808 ≤ z ∧ z ≤ 9223372036854775807) (hm : MX w) :
    Calls Tryz.prog 5 #[v, .int .i64 z] w fun e w' => e = .returned (.bool true) ∧ Kp w w' := by
  have hz' := hz
  obtain ⟨⟨ao, cap, rfl, hc, hmx, hat⟩, hlt, hsm⟩ := hz
  obtain ⟨len, hlen⟩ : ∃ len, len = zs.length := ⟨_, rfl⟩
  rw [← hlen] at hz' ⊢
  obtain ⟨w1, hw1⟩ : ∃ w1, w1 = w.alloc (Obj.cells #[.slice ao len cap, .int .i64 0] 25) := ⟨_, rfl⟩
  have htp : Tp w w1 w.heap.size 0 := by
    rw [hw1]
    exact ⟨⟨ao, len, cap, zs, hz', Blk.new _ _ _⟩, Kp.alloc (Kp.refl _) _, Nat.le_refl _⟩
  have HRV := Lib.hid (Revision_q (n := 0) ⟨0, by omega, htp⟩)
  have HK1 : Hid (Kp w w1) := Lib.hid htp.kp
  have HM1 : Hid (MX w1) := Lib.hid (hm.keep htp.kp)
  have HW1 := Lib.hid hw1; have HB := Lib.hid hb; have HM := Lib.hid hm
  clear hz' hc hmx hat hlt hsm hlen hw1 htp hb hm
  go_enter Tryz.func5, Tryz.ntmps5
  go_wp2_with fail
  rw [← HW1.out]
  refine HRV.out.mono ?_
  rintro e w2 ⟨⟨u, fs, rfl, hr, hp⟩, hq, hg⟩
  have HK2 : Hid (Kp w w2) := Lib.hid hq.base
  have HR := Lib.hid hr; have HC : Hid (chk fs = 0) := Lib.hid (hp.chk (by omega))
  obtain ⟨ua, ul, uc, hu⟩ := hr.form
  subst hu
  obtain ⟨L, hL⟩ : ∃ L, L = (enc fs).length := ⟨_, rfl⟩
  have hmem : ∀ f ∈ fs, f.1.length ≤ 80 ∧ f.2.length ≤ 16384 := fun f hf => ⟨path_len (chkL_mem (chk_ok HC.out).2 f hf).1, (chkL_mem (chk_ok HC.out).2 f hf).2⟩
  have hL2 : 6 ≤ L ∧ L ≤ 200000 := by
    have h1 := encB_len hmem
    have h2 := fr_len 2 (uv fs.length)
    have h3 := hp.len
    have h4 := uv_ten (n := fs.length) (by omega)
    have h5 := uv_ten (n := (uv fs.length).length) (by omega)
    rw [hL, enc, List.length_append]
    omega
  obtain ⟨hL6, hLm⟩ := hL2
  have HL := Lib.hid hL
  have CE : Hid (∀ W, Kp w2 W → Calls Tryz.prog 24 #[.agg #[.slice ua ul uc]] W fun e w' => ∃ a c, e = .returned (.tuple #[.slice a L c, .int .i64 0]) ∧ L ≤ c ∧ Sl w' (.slice a L c) (enc fs) ∧ Kp W w') := Lib.hid (fun W hk => (Encode_any (HR.out.keep hk) (HM.out.keep (Kp.trans HK2.out hk))).mono (by
    intro e w' h
    obtain ⟨v, e1, hs, hk⟩ := h.sl
    rw [HC.out] at e1 hs
    rw [if_pos rfl] at hs
    obtain ⟨a, c, rfl, hcc, -, -⟩ := hs.open3
    rw [← HL.out] at e1 hs hcc
    exact ⟨a, c, e1, hcc, hs, hk⟩))
  have CD : Hid (∀ W v, Kp w2 W → Sl W v (enc fs) → Calls Tryz.prog 31 #[v] W fun e w' => ∃ a l c, e = .returned (.tuple #[.agg #[.slice a l c], .int .i64 0]) ∧ Rw w' (.slice a l c) fs ∧ Kp W w') := Lib.hid (fun W v hk hs => (Decode_any hs (by rw [← HL.out]; omega) (HM.out.keep (Kp.trans HK2.out hk))).mono (by
    rintro e w' ⟨r, q, E, u, h1, h2, e1, h3, h4⟩
    obtain ⟨rfl, -, rfl⟩ := Chain.unique h1 h2 (chain_enc hmem (chk_ok HC.out).1) stops_end
    rw [dec_enc HC.out] at e1 h3
    obtain ⟨a, l, c, rfl⟩ := h3.form
    exact ⟨a, l, c, e1, h3, h4⟩))
  have CP : Hid (∀ W v t, Kp w2 W → t < L → Sl W v ((enc fs).take t) → Calls Tryz.prog 31 #[v] W fun e w' => ∃ a l c, ∃ E : Nat, e = .returned (.tuple #[.agg #[.slice a l c], .int .i64 E]) ∧ E ≠ 0 ∧ Kp W w') := Lib.hid (fun W v t hk ht hs => (Decode_any hs (by rw [List.length_take, ← HL.out]; omega) (HM.out.keep (Kp.trans HK2.out hk))).mono (by
    rintro e w' ⟨r, q, E, u, h1, h2, e1, h3, h4⟩
    obtain ⟨a, l, c, rfl⟩ := h3.form
    exact ⟨a, l, c, _, e1, dec_begin HC.out (by rw [← HL.out]; exact ht) h1 h2, h4⟩))
  have CS : Hid (∀ W x y, Rw W x fs → Rw W y fs → Calls Tryz.prog 11 #[.agg #[x], .agg #[y]] W fun e w' => e = .returned (.bool true) ∧ Kp W w') := Lib.hid (fun W x y h1 h2 => by
    have h := rSame_any h1 h2
    rw [decide_eq_true rfl] at h
    exact h)
  have CF : Hid (∀ W, Calls Tryz.prog 29 #[.int .i64 z, .int .i64 L] W fun e w' => (∃ r : Nat, r < L ∧ e = .returned (.int .i64 r)) ∧ W = w') := Lib.hid (fun W => Fold_any z HB.out L (by omega) (by omega) W)
  have CA : Hid (∀ W, Kp w2 W → Calls Tryz.prog 23 #[] W fun e w' => e = .returned (.bool true) ∧ Kp W w') := Lib.hid (fun W hk => rvAwake_any (HM.out.keep (Kp.trans HK2.out hk)))
  have hLi : (0 : Int) < (L : Int) := by omega
  clear hr hp hq hg hL hmem
  obtain ⟨Wr, hWr⟩ : ∃ W, W = w2.alloc (.cells #[.slice ua ul uc] 28) := ⟨_, rfl⟩
  obtain ⟨rb, hrb⟩ : ∃ b, b = w2.heap.size := ⟨_, rfl⟩
  have HWR := Lib.hid hWr; have HRB := Lib.hid hrb
  have HKR : Hid (Kp w2 Wr) := Lib.hid (by rw [hWr]; exact kp_alloc _ _)
  have RB : Hid (Blk Wr rb 28 #[.slice ua ul uc]) := Lib.hid (by rw [hWr, hrb]; exact Blk.new _ _ _)
  clear hWr hrb
  go_wp2_with fail
  rw [← HWR.out, ← HRB.out]
  refine (CE.out Wr HKR.out).mono ?_
  rintro e w3 ⟨a3, c3, rfl, hc3, hs3, hk3⟩
  have HK3 := Lib.hid (Kp.trans HKR.out hk3); have HS3 := Lib.hid hs3; have RB3 := Lib.hid (RB.out.keep hk3)
  clear hs3 hk3
  go_wp2_with fail
  refine (CD.out w3 _ HK3.out HS3.out).mono ?_
  rintro e w4 ⟨a4, l4, c4, rfl, hr4, hk4⟩
  have HK4 := Lib.hid (Kp.trans HK3.out hk4); have HS4 := Lib.hid (HS3.out.keep hk4); have RB4 := Lib.hid (RB3.out.keep hk4); have HR4 := Lib.hid hr4
  have k5 := kp_alloc w4 (.cells #[.slice a4 l4 c4] 28)
  have SB5 : Hid (Blk (w4.alloc (.cells #[.slice a4 l4 c4] 28)) w4.heap.size 28 #[.slice a4 l4 c4]) := Lib.hid (Blk.new _ _ _)
  have x0 := (RB4.out.keep k5).cell 0 rfl
  have y0 := SB5.out.cell 0 rfl
  have HK5 := Lib.hid (Kp.trans HK4.out k5); have HS5 := Lib.hid (HS4.out.keep k5); have HR5 := Lib.hid (HR4.out.keep k5)
  have CS5 : Hid (Calls Tryz.prog 11 #[.agg #[.slice ua ul uc], .agg #[.slice a4 l4 c4]] (w4.alloc (.cells #[.slice a4 l4 c4] 28)) fun e w' => e = .returned (.bool true) ∧ Kp (w4.alloc (.cells #[.slice a4 l4 c4] 28)) w') := Lib.hid (CS.out _ _ _ (HR.out.keep HK5.out) HR5.out)
  have q0 : ((L : Int) == 0) = false := by simp; omega
  clear hr4 hk4 k5
  go_wp2_with fail
  refine CS5.out.mono ?_
  rintro e w6 ⟨rfl, hk6⟩
  have HK6 := Lib.hid (Kp.trans HK5.out hk6); have HS6 := Lib.hid (HS5.out.keep hk6)
  clear hk6 x0 y0
  go_wp2_with fail
  refine (CF.out w6).mono ?_
  rintro e w' ⟨⟨t, ht, rfl⟩, rfl⟩
  have HT := Lib.hid ht
  have hcut := HS6.out.cut 0 t (by omega) (by omega)
  rw [List.drop_zero] at hcut
  have hsl : ∀ w, (Instr.slice 42 (.slice a3 L c3) none (some (.int .i64 t)) none).run Tryz.prog w = .ok (sliced a3 0 t c3 1) w := fun w => slice_to a3 L c3 t t rfl (by omega) w
  obtain ⟨at', ct, hv, -, -, -⟩ := hcut.open3
  obtain ⟨lt, hlt⟩ : ∃ n, n = ((enc fs).take t).length := ⟨_, rfl⟩
  rw [← hlt] at hv
  rw [hv] at hcut hsl
  have CP6 := Lib.hid (CP.out w6 _ t HK6.out ht hcut)
  clear ht hcut hv hlt
  go_wp2_with fail
  refine CP6.out.mono ?_
  rintro e w7 ⟨a7, l7, c7, E, rfl, hE, hk7⟩
  have HK7 := Lib.hid (Kp.trans HK6.out hk7)
  have q1 : ((E : Int) == 0) = false := by simp; omega
  have CA7 := Lib.hid (CA.out w7 HK7.out)
  have q2 : 0 < E := by omega
  clear hk7 hsl
  go_wp2_with fail
  refine CA7.out.mono ?_
  rintro e w8 ⟨rfl, hk8⟩
  have HK8 := Lib.hid (Kp.trans HK7.out hk8)
  clear hk8
  go_wp2_with fail
  go_ret
  refine ⟨?_, Kp.trans HK2.out HK8.out⟩
  show Ending.returned (Value.bool ((E : Int) != 0)) = _
  rw [bne, q1]
  rfl
theorem revBack_row {w : World} (hm : MX w) {v : Value} {zs : List Int} (hs : SlI w v zs) (z : Int) (hz : -9223372036854775808 ≤ z ∧ z ≤ 9223372036854775807) : Calls Tryz.prog 5 #[v, .int .i64 z] w fun e w' => e = .returned (.bool true) ∧ Kp w w' := revBack_any hs hz hm
end By
end Go.Proofs.YtmkijkaabcgcbaaGreatDoor
