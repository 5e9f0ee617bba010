/- The law on any revisions and bytes: it returns true, and leaves what was there. Conditions: the slices read as the files and the bytes that are named; a package variable of the library holds some integer. -/
import Derived.Test.YtcnggfhbifobaaaDoorRvW
import Derived.Test.YtcnggfhbifobaaaDoorMRc
namespace Go.Proofs.YtcnggfhbifobaaaDoor
namespace By
open Go.RowKit Go.Shelf WireN LexN RevN
set_option linter.unusedVariables false
set_option linter.unusedSimpArgs false

/-- The law behind the cut. -/
theorem EncV.eq {w w' : World} {fs : List Fl} {e : Ending} (h : EncV w fs e w') : ∃ v, e = .returned (.tuple #[v, .int .i64 (chk fs : Nat)]) ∧ Sl w' v (if chk fs = 0 then enc fs else []) ∧ Kp w w' := h.sl
set_option maxRecDepth 100000 in
set_option maxHeartbeats 6000000 in
theorem rvRaw_any {u v : Value} {fs : List Fl} {xs : List Nat} {w : World} (hr : Rw w u fs) (hs : Sl w v xs) (hm : MX w) :
    Calls Tryd.prog 3 #[.agg #[u], v] w fun e w' => e = .returned (.bool true) ∧ Kp w w' := by
  obtain ⟨ua, uc, rfl, -, -, -⟩ := hr.open3
  obtain ⟨n, hn⟩ : ∃ n, n = fs.length := ⟨_, rfl⟩
  rw [← hn] at hr ⊢
  obtain ⟨W0, hW0⟩ : ∃ W, W = w.alloc (.cells #[.slice ua n uc] 24) := ⟨_, rfl⟩
  obtain ⟨xb, hxb⟩ : ∃ xb, xb = w.heap.size := ⟨_, rfl⟩
  have HK0 : Hid (Kp w W0) := Lib.hid (by rw [hW0]; exact kp_alloc w _)
  have XB0 : Hid (Blk W0 xb 24 #[.slice ua n uc]) := Lib.hid (by rw [hW0, hxb]; exact Blk.new w _ _)
  have HR0 := Lib.hid (hr.keep HK0.out)
  have HM0 := Lib.hid (hm.keep HK0.out)
  have HW0 := Lib.hid hW0; have HXB := Lib.hid hxb
  obtain ⟨EN, hEN⟩ : ∃ E, E = (if chk fs = 0 then enc fs else []) := ⟨_, rfl⟩
  obtain ⟨er, her⟩ : ∃ e, e = chk fs := ⟨_, rfl⟩
  have CE : Hid (∀ W, Kp W0 W → Calls Tryd.prog 4 #[.agg #[.slice ua n uc]] W fun e w' => ∃ l, e = .returned (.tuple #[l, .int .i64 (er : Nat)]) ∧ Sl w' l EN ∧ Kp W w') := Lib.hid (fun W hk => by
    refine (Encode_any (HR0.out.keep hk) (HM0.out.keep hk)).mono ?_
    intro e w' h
    rw [hEN, her]
    exact h.sl)
  have CR : Hid (∀ W, Kp W0 W → Calls Tryd.prog 5 #[.agg #[.slice ua n uc]] W fun e w' => ∃ l, e = .returned (.tuple #[l, .int .i64 (er : Nat)]) ∧ Sl w' l EN ∧ Kp W w') := Lib.hid (fun W hk => by
    refine (rEncode_any (HR0.out.keep hk)).mono ?_
    intro e w' h
    rw [hEN, her]
    exact h.sl)
  have CC : Hid (∀ W, Kp W0 W → Calls Tryd.prog 6 #[.agg #[.slice ua n uc]] W fun e w' => e = .returned (.int .i64 (er : Nat)) ∧ Kp W w') := Lib.hid (fun W hk => by
    rw [her]
    exact Check_any (HR0.out.keep hk) (HM0.out.keep hk))
  have CQ : Hid (∀ W, Kp W0 W → Calls Tryd.prog 7 #[.agg #[.slice ua n uc]] W fun e w' => e = .returned (.int .i64 (er : Nat)) ∧ Kp W w') := Lib.hid (fun W hk => by
    rw [her]
    exact rCheck_any (HR0.out.keep hk))
  have CA : Hid (∀ W, Kp W0 W → Calls Tryd.prog 10 #[] W fun e w' => e = .returned (.bool true) ∧ Kp W w') := Lib.hid (fun W hk => rvAwake_any (HM0.out.keep hk))
  have HS := Lib.hid hs
  obtain ⟨va0, vc0, rfl, hvc, -, hvn⟩ := hs.open3
  obtain ⟨len, hlen⟩ : ∃ len, len = xs.length := ⟨_, rfl⟩
  rw [← hlen] at hs HS hvc ⊢
  have hvci : (len : Int) ≤ (vc0 : Int) := by omega
  by_cases h : 2000 < len
  · have i1 : (2000 : Int) < (len : Int) := by omega
    have hcut := hs.cut 0 2000 (by omega) (by omega)
    rw [List.drop_zero] at hcut
    have hsl : ∀ w, (Instr.slice 25 (.slice va0 len vc0) none (some (.int .i64 2000)) none).run Tryd.prog w = .ok (sliced va0 0 2000 vc0 1) w := fun w => slice_to va0 len vc0 2000 2000 rfl (by omega) w
    obtain ⟨va, vc, hv, -, -, -⟩ := hcut.open3
    have htl : (xs.take 2000).length = 2000 := by rw [List.length_take, ← hlen]; omega
    rw [htl] at hv
    rw [hv] at hcut hsl
    obtain ⟨vl, hvl⟩ : ∃ vl, vl = 2000 := ⟨_, rfl⟩
    rw [← hvl] at hcut hsl
    have CD : Hid (∀ W, Kp W0 W → Calls Tryd.prog 9 #[.slice va vl vc] W fun e w' => e = .returned (.bool true) ∧ Kp W w') := Lib.hid (fun W hk => decodes_any ((hcut.keep HK0.out).keep hk) (by rw [List.length_take, ← hlen, hvl]; omega) (HM0.out.keep hk))
    have hcast : (2000 : Int) = (2000 : Int) := rfl
    clear hr hs hm hn hW0 hxb hEN her hvc hvn hlen h hcut htl hv hvl hcast
    have x0 := XB0.out.cell 0 rfl
    rw [HW0.out] at x0
    go_enter Tryd.func3, Tryd.ntmps3
    go_wp2_with fail
    rw [← HW0.out, ← HXB.out]
    clear x0
    refine (CE.out W0 (Kp.refl _)).mono ?_
    rintro e w1 ⟨l1, rfl, hs1, hk1⟩
    have HK1 := Lib.hid hk1
    have x0 := (XB0.out.keep hk1).cell 0 rfl
    obtain ⟨a1, c1, hl1, -, -, -⟩ := hs1.open3
    obtain ⟨n1, hn1⟩ : ∃ n, n = EN.length := ⟨_, rfl⟩
    rw [← hn1] at hl1
    subst hl1
    have HS1 := Lib.hid hs1
    clear hs1 hk1 hn1
    go_wp2_with fail
    refine (CR.out w1 HK1.out).mono ?_
    rintro e w2 ⟨l2, rfl, hs2, hk2⟩
    have HK2 := Lib.hid (Kp.trans HK1.out hk2)
    obtain ⟨a2, c2, hl2, -, -, -⟩ := hs2.open3
    obtain ⟨n2, hn2⟩ : ∃ n, n = EN.length := ⟨_, rfl⟩
    rw [← hn2] at hl2
    subst hl2
    have CS : Hid (∀ W, Kp w2 W → Calls Tryd.prog 8 #[.slice a1 n1 c1, .slice a2 n2 c2] W fun e w' => e = .returned (.bool true) ∧ W = w') := Lib.hid (fun W hk => by
      have h := Same_any ((HS1.out.keep hk2).keep hk) (hs2.keep hk)
      rw [decide_eq_true rfl] at h
      exact h)
    have X0 : Hid (∀ W, Kp w2 W → W.cell? ⟨xb, 0, none⟩ = some (.slice ua n uc)) := Lib.hid (fun W hk => (XB0.out.keep (Kp.trans HK2.out hk)).cell 0 rfl)
    have CC2 : Hid (∀ W, Kp w2 W → Calls Tryd.prog 6 #[.agg #[.slice ua n uc]] W fun e w' => e = .returned (.int .i64 (er : Nat)) ∧ Kp W w') := Lib.hid (fun W hk => CC.out W (Kp.trans HK2.out hk))
    have CQ2 : Hid (∀ W, Kp w2 W → Calls Tryd.prog 7 #[.agg #[.slice ua n uc]] W fun e w' => e = .returned (.int .i64 (er : Nat)) ∧ Kp W w') := Lib.hid (fun W hk => CQ.out W (Kp.trans HK2.out hk))
    have CD2 : Hid (∀ W, Kp w2 W → Calls Tryd.prog 9 #[.slice va vl vc] W fun e w' => e = .returned (.bool true) ∧ Kp W w') := Lib.hid (fun W hk => CD.out W (Kp.trans HK2.out hk))
    have CA2 : Hid (∀ W, Kp w2 W → Calls Tryd.prog 10 #[] W fun e w' => e = .returned (.bool true) ∧ Kp W w') := Lib.hid (fun W hk => CA.out W (Kp.trans HK2.out hk))
    have q0 : ((er : Int) == (er : Int)) = true := by simp
    have x0 := X0.out w2 (Kp.refl _)
    clear hs2 hk2 hn2
    go_wp2_with fail
    go_region_held3 (fun w' => w'.cell? ⟨xb, 0, none⟩ = some (.slice ua n uc))
      (first
        | exact X0.out _ (by first | assumption | exact kp_drew _ | exact Kp.refl _)
        | fail "no keep")
      (first
        | (go_at_call 6; refine (CC2.out _ (by first | assumption | exact kp_drew _)).mono ?_; rintro e w3 ⟨rfl, hk3'⟩; have hk3 : Kp w2 w3 := Kp.trans (by first | assumption | exact kp_drew _) hk3')
        | (go_at_call 7; refine (CQ2.out _ (by first | assumption | exact kp_drew _)).mono ?_; rintro e w4 ⟨rfl, hk4'⟩; have hk4 : Kp w2 w4 := Kp.trans (by first | assumption | exact kp_drew _) hk4')
        | (go_at_call 8; refine (CS.out _ (by first | assumption | exact kp_drew _)).mono ?_; rintro e w5 ⟨rfl, rfl⟩)
        | (go_at_call 9; refine (CD2.out _ (by first | assumption | exact kp_drew _)).mono ?_; rintro e w6 ⟨rfl, hk6'⟩; have hk6 : Kp w2 w6 := Kp.trans (by first | assumption | exact kp_drew _) hk6')
        | (go_at_call 10; refine (CA2.out _ (by first | assumption | exact kp_drew _)).mono ?_; rintro e w7 ⟨rfl, hk7'⟩; have hk7 : Kp w2 w7 := Kp.trans (by first | assumption | exact kp_drew _) hk7')
        | fail "no arm")
    all_goals
      have HK7 := Lib.hid hk7
      clear hk7 hk7' hk6 hk6' hk4 hk4' hk3 hk3'
      go_wp2_with fail
      go_ret
      exact ⟨rfl, Kp.trans HK0.out (Kp.trans HK2.out HK7.out)⟩
  · have i1 : (len : Int) ≤ (2000 : Int) := by omega
    obtain ⟨va, hva⟩ : ∃ va, va = va0 := ⟨_, rfl⟩
    obtain ⟨vl, hvl⟩ : ∃ vl, vl = len := ⟨_, rfl⟩
    obtain ⟨vc, hvcc⟩ : ∃ vc, vc = vc0 := ⟨_, rfl⟩
    rw [← hva, ← hvl, ← hvcc] at hs ⊢
    rw [← hvl] at i1 hvci
    have CD : Hid (∀ W, Kp W0 W → Calls Tryd.prog 9 #[.slice va vl vc] W fun e w' => e = .returned (.bool true) ∧ Kp W w') := Lib.hid (fun W hk => decodes_any ((hs.keep HK0.out).keep hk) (by rw [← hlen]; omega) (HM0.out.keep hk))
    clear hr hs hm hn hW0 hxb hEN her hvc hvn hlen h hva hvl hvcc
    have x0 := XB0.out.cell 0 rfl
    rw [HW0.out] at x0
    go_enter Tryd.func3, Tryd.ntmps3
    go_wp2_with fail
    rw [← HW0.out, ← HXB.out]
    clear x0
    refine (CE.out W0 (Kp.refl _)).mono ?_
    rintro e w1 ⟨l1, rfl, hs1, hk1⟩
    have HK1 := Lib.hid hk1
    have x0 := (XB0.out.keep hk1).cell 0 rfl
    obtain ⟨a1, c1, hl1, -, -, -⟩ := hs1.open3
    obtain ⟨n1, hn1⟩ : ∃ n, n = EN.length := ⟨_, rfl⟩
    rw [← hn1] at hl1
    subst hl1
    have HS1 := Lib.hid hs1
    clear hs1 hk1 hn1
    go_wp2_with fail
    refine (CR.out w1 HK1.out).mono ?_
    rintro e w2 ⟨l2, rfl, hs2, hk2⟩
    have HK2 := Lib.hid (Kp.trans HK1.out hk2)
    obtain ⟨a2, c2, hl2, -, -, -⟩ := hs2.open3
    obtain ⟨n2, hn2⟩ : ∃ n, n = EN.length := ⟨_, rfl⟩
    rw [← hn2] at hl2
    subst hl2
    have CS : Hid (∀ W, Kp w2 W → Calls Tryd.prog 8 #[.slice a1 n1 c1, .slice a2 n2 c2] W fun e w' => e = .returned (.bool true) ∧ W = w') := Lib.hid (fun W hk => by
      have h := Same_any ((HS1.out.keep hk2).keep hk) (hs2.keep hk)
      rw [decide_eq_true rfl] at h
      exact h)
    have X0 : Hid (∀ W, Kp w2 W → W.cell? ⟨xb, 0, none⟩ = some (.slice ua n uc)) := Lib.hid (fun W hk => (XB0.out.keep (Kp.trans HK2.out hk)).cell 0 rfl)
    have CC2 : Hid (∀ W, Kp w2 W → Calls Tryd.prog 6 #[.agg #[.slice ua n uc]] W fun e w' => e = .returned (.int .i64 (er : Nat)) ∧ Kp W w') := Lib.hid (fun W hk => CC.out W (Kp.trans HK2.out hk))
    have CQ2 : Hid (∀ W, Kp w2 W → Calls Tryd.prog 7 #[.agg #[.slice ua n uc]] W fun e w' => e = .returned (.int .i64 (er : Nat)) ∧ Kp W w') := Lib.hid (fun W hk => CQ.out W (Kp.trans HK2.out hk))
    have CD2 : Hid (∀ W, Kp w2 W → Calls Tryd.prog 9 #[.slice va vl vc] W fun e w' => e = .returned (.bool true) ∧ Kp W w') := Lib.hid (fun W hk => CD.out W (Kp.trans HK2.out hk))
    have CA2 : Hid (∀ W, Kp w2 W → Calls Tryd.prog 10 #[] W fun e w' => e = .returned (.bool true) ∧ Kp W w') := Lib.hid (fun W hk => CA.out W (Kp.trans HK2.out hk))
    have q0 : ((er : Int) == (er : Int)) = true := by simp
    have x0 := X0.out w2 (Kp.refl _)
    clear hs2 hk2 hn2
    go_wp2_with fail
    go_region_held3 (fun w' => w'.cell? ⟨xb, 0, none⟩ = some (.slice ua n uc))
      (first
        | exact X0.out _ (by first | assumption | exact kp_drew _ | exact Kp.refl _)
        | fail "no keep")
      (first
        | (go_at_call 6; refine (CC2.out _ (by first | assumption | exact kp_drew _)).mono ?_; rintro e w3 ⟨rfl, hk3'⟩; have hk3 : Kp w2 w3 := Kp.trans (by first | assumption | exact kp_drew _) hk3')
        | (go_at_call 7; refine (CQ2.out _ (by first | assumption | exact kp_drew _)).mono ?_; rintro e w4 ⟨rfl, hk4'⟩; have hk4 : Kp w2 w4 := Kp.trans (by first | assumption | exact kp_drew _) hk4')
        | (go_at_call 8; refine (CS.out _ (by first | assumption | exact kp_drew _)).mono ?_; rintro e w5 ⟨rfl, rfl⟩)
        | (go_at_call 9; refine (CD2.out _ (by first | assumption | exact kp_drew _)).mono ?_; rintro e w6 ⟨rfl, hk6'⟩; have hk6 : Kp w2 w6 := Kp.trans (by first | assumption | exact kp_drew _) hk6')
        | (go_at_call 10; refine (CA2.out _ (by first | assumption | exact kp_drew _)).mono ?_; rintro e w7 ⟨rfl, hk7'⟩; have hk7 : Kp w2 w7 := Kp.trans (by first | assumption | exact kp_drew _) hk7')
        | fail "no arm")
    all_goals
      have HK7 := Lib.hid hk7
      clear hk7 hk7' hk6 hk6' hk4 hk4' hk3 hk3'
      go_wp2_with fail
      go_ret
      exact ⟨rfl, Kp.trans HK0.out (Kp.trans HK2.out HK7.out)⟩
theorem rvRaw_row {w : World} (hm : MX w) {u v : Value} {fs : List Fl} {xs : List Nat} (hr : Rw w u fs) (hs : Sl w v xs) : Calls Tryd.prog 3 #[.agg #[u], v] w fun e w' => e = .returned (.bool true) ∧ Kp w w' := rvRaw_any hr hs hm
end By
end Go.Proofs.YtcnggfhbifobaaaDoor
