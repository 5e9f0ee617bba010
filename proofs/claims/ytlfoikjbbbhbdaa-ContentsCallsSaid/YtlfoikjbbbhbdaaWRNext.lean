/- The reference's Next: what it reads at any place. Condition: the slice holds the bytes that are named. -/
import Derived.Test.YtlfoikjbbbhbdaaMRf
import Derived.Test.YtlfoikjbbbhbdaaMWs
import Derived.Test.YtlfoikjbbbhbdaaWDm
namespace Go.Proofs.Ytlfoikjbbbhbdaa
namespace By
open Go.RowKit WireN
set_option linter.unusedVariables false
set_option linter.unusedSimpArgs false

/-- append of bytes to a slice of the call's own, as a step of a region. -/
theorem step_ap {w wx : World} {ops : Array Oper} {o : Oper} {a : Act} {K : Act → World → Prop} {Q : Exit → Act → World → Prop} {E : Prop} (hgd : o.guard = none) (s x : Operand)
    (ho : o.op = .call { callee := .builtin .append, args := #[s, x], argTypes := #[48, 48] })
    {v vs : Value} {zs ys : List Nat} (hs : a.eval s = v) (hx : a.eval x = vs) (hown : Own w wx v zs) (hsl : Sl wx vs ys) (hsum : zs.length + ys.length ≤ 140737488355328)
    (h : ∀ v' w', Own w w' v' (zs ++ ys) → K (a.put o.dst v') w') :
    if Region.wanted o (yielded ops a.tmps) = true then Oper.wp Try.prog o a wx K Q else E := by
  have hw : Region.wanted o (yielded ops a.tmps) = true := by simp [Region.wanted, hgd]
  rw [if_pos hw]
  obtain ⟨⟨ao, cap, rfl, h2, h3, h4, h5⟩, hl, hsm⟩ := hsl
  obtain ⟨i0, hi, hz0, hz1, hz2⟩ := info_parts info32
  cases ao with
  | none =>
    have hys : ys = [] := by
      rcases h4 with h | ⟨_, _, h, _⟩
      · exact h
      · simp at h
    subst hys
    obtain rfl := h5 rfl
    have hrun := run_append_owned_none (P := Try.prog) (w := wx) w.heap.size 48 o.type 5 i0 1 Try.underlying48 hi v zs.length (U zs) hown.owns
    unfold Oper.wp
    simp [execOp, ho, resolve, invoke, builtin, hs, hx, hrun, Result.andThen]
    exact h _ _ (by simpa using hown)
  | some ad =>
    refine wp_append_own wx s x 48 ho w.heap.size 5 i0 (.int .u8 0) 1 1 Try.underlying48 hi hz0 hz1 hz2 rfl (by decide) v zs.length (U zs) hs hown.owns ad ys.length cap (U ys) hx (by rw [U_length, Nat.mul_one]) h4.news (U_one _)
      (by unfold maxLen; omega) (by omega) hown.kp.size (fun v' w' h1 hg _ => h v' w' ⟨by rw [List.length_append, U_append]; exact h1, hown.lt.append hl, ?_⟩)
    exact Below.grown hown.kp hg hown.kp.size (fun k hk => (hown.owns.lt k hk).1)

theorem four (xs : List Nat) (q : Nat) (h : q + 4 ≤ xs.length) : (xs.drop q).take 4 = [xs[q]?.getD 0, xs[q + 1]?.getD 0, xs[q + 2]?.getD 0, xs[q + 3]?.getD 0] := by
  have h4 : ((xs.drop q).take 4).length = 4 := by rw [List.length_take, List.length_drop]; omega
  refine List.ext_getElem? fun j => ?_
  rcases Nat.lt_or_ge j 4 with hj | hj
  · rw [List.getElem?_take, if_pos hj, List.getElem?_drop, List.getElem?_eq_getElem (show q + j < xs.length by omega)]
    match j, hj with
    | 0, _ => simp [List.getElem?_eq_getElem (show q < xs.length by omega)]
    | 1, _ => simp [List.getElem?_eq_getElem (show q + 1 < xs.length by omega)]
    | 2, _ => simp [List.getElem?_eq_getElem (show q + 2 < xs.length by omega)]
    | 3, _ => simp [List.getElem?_eq_getElem (show q + 3 < xs.length by omega)]
  · rw [List.getElem?_eq_none (by omega), List.getElem?_eq_none (by simp; omega)]

set_option maxRecDepth 100000 in
set_option maxHeartbeats 4000000 in
theorem rNext_range {v : Value} {xs : List Nat} {w : World} (hs : Sl w v xs) (i : Int) (hi : -9223372036854775808 ≤ i ∧ i ≤ 9223372036854775807) (h : i < 0 ∨ (xs.length : Int) < i) :
    Calls Try.prog 59 #[v, .int .i64 i] w (NxR xs i w) := by
  have hnx := nx_range h
  obtain ⟨ao, cap, rfl, hc, hm, hno⟩ := hs.open3
  have HK := Lib.hid (kp_alloc w (.cells #[.int .i64 0, .slice none 0 0] 80))
  have FIN : Hid (∀ e w', e = .returned (.tuple #[.agg #[.int .i64 0, .slice none 0 0], .int .i64 0, .int .i64 3]) → Kp w w' → NxR xs i w e w') := fun e w' he hk => NxR.no hnx he hk
  obtain ⟨R, hR⟩ : ∃ R, R = NxR xs i w := ⟨_, rfl⟩
  rw [← hR] at FIN ⊢
  clear hR hnx hs hno hm hc
  rcases h with h | h
  · go_enter Try.func59, Try.ntmps59
    go_wp2_with fail
    exact bodyPost_ret (by simp [results, Try.results59, go_sem]) rfl (FIN.out _ _ rfl HK.out)
  · have h0 : ¬ i < 0 := by omega
    go_enter Try.func59, Try.ntmps59
    go_wp2_with fail
    exact bodyPost_ret (by simp [results, Try.results59, go_sem]) rfl (FIN.out _ _ rfl HK.out)

set_option maxRecDepth 100000 in
set_option maxHeartbeats 1500000 in
theorem rNext_in {v : Value} {xs : List Nat} {w : World} (hs : Sl w v xs) (i : Nat) (hi : i ≤ xs.length) (hsm : xs.length ≤ 1000000) :
    Calls Try.prog 59 #[v, .int .i64 (i : Nat)] w (NxR xs i w) := by
  obtain ⟨ao, cap, rfl, hc, hm, hno⟩ := hs.open3
  obtain ⟨len, hlen⟩ : ∃ len, len = xs.length := ⟨_, rfl⟩
  rw [← hlen] at hs hc hi ⊢
  have HL := Lib.hid hlen; have HS := Lib.hid hs; have HI := Lib.hid hi
  have hci : (len : Int) ≤ (cap : Int) := by omega
  have hli : (len : Int) ≤ 1000000 := by omega
  have hii : (i : Int) ≤ (len : Int) := by omega
  have HK := Lib.hid (kp_alloc w (.cells #[.int .i64 0, .slice none 0 0] 80))
  obtain ⟨R, hR⟩ : ∃ R, R = NxR xs (i : Nat) w := ⟨_, rfl⟩
  have HR := Lib.hid hR
  have FIN : Hid (∀ E : Nat, nx xs (i : Nat) = (0, [], 0, E) → R (.returned (.tuple #[.agg #[.int .i64 0, .slice none 0 0], .int .i64 0, .int .i64 (E : Nat)])) (w.alloc (.cells #[.int .i64 0, .slice none 0 0] 80))) := Lib.hid (fun E h => by rw [hR]; exact NxR.no h rfl HK.out)
  rw [← hR]
  clear hR hs hno hm hlen hi hc hsm
  by_cases h0 : i = len
  · have b0 : ((i : Int) == (len : Int)) = true := beq_iff_eq.2 (by omega)
    have HF := Lib.hid (FIN.out 7 (nx_end0 (by have := HL.out; omega)))
    clear h0
    go_enter Try.func59, Try.ntmps59
    go_wp2_with fail
    exact bodyPost_ret (by simp [results, Try.results59, go_sem]) rfl (HF.out)
  · have b0 : ((i : Int) == (len : Int)) = false := beq_eq_false_iff_ne.2 (by omega)
    have hil : (i : Int) < (len : Int) := by have := HI.out; omega
    obtain ⟨b, off, rfl, hcell⟩ := sl_cell HS.out (by omega)
    have hcell2 : ∀ j : Nat, j < len → (w.alloc (.cells #[.int .i64 0, .slice none 0 0] 80)).cell? ⟨b, off + j, none⟩ = some (.int .u8 (xs[j]?.getD 0 : Nat)) := fun j hj => cell_kept (hcell j hj) HK.out
    have HCELL := Lib.hid hcell2
    have c0 := hcell2 i (by omega)
    have HBL : Hid (b ≠ w.heap.size) := Lib.hid (Nat.ne_of_lt (World.block_lt_of_cell? w _ (hcell i (by omega))))
    clear hcell hcell2
    obtain ⟨x0, hx0⟩ : ∃ x0, x0 = xs[i]?.getD 0 := ⟨_, rfl⟩
    rw [← hx0] at c0
    have HX0 := Lib.hid hx0
    clear hx0
    by_cases h1 : x0 = 247
    · have b1 : ((x0 : Int) == 247) = true := beq_iff_eq.2 (by omega)
      have b1' : ((x0 : Int) != 247) = false := by rw [h1]; rfl
      have HQ0 : Hid (xs[i]?.getD 0 = 247) := Lib.hid (by rw [← HX0.out]; exact h1)
      obtain ⟨i1, hi1⟩ : ∃ i1, i1 = i + 1 := ⟨_, rfl⟩
      have hi1' : (i : Int) + 1 = (i1 : Int) := by omega
      have HI1E := Lib.hid hi1
      by_cases h2 : len = i + 1
      · have b2 : ((i1 : Int) == (len : Int)) = true := beq_iff_eq.2 (by omega)
        have HF := Lib.hid (FIN.out 7 (nx_end1 (by have := HL.out; omega) HQ0.out))
        clear h0 h1 h2 hi1
        go_enter Try.func59, Try.ntmps59
        go_wp2_with fail
        exact bodyPost_ret (by simp [results, Try.results59, go_sem]) rfl (HF.out)
      · have b2 : ((i1 : Int) == (len : Int)) = false := beq_eq_false_iff_ne.2 (by omega)
        have hil1 : (i1 : Int) < (len : Int) := by omega
        have HI1 : Hid (i + 1 < xs.length) := Lib.hid (by have := HL.out; omega)
        have c1 := HCELL.out i1 (by omega)
        obtain ⟨x1, hx1⟩ : ∃ x1, x1 = xs[i1]?.getD 0 := ⟨_, rfl⟩
        rw [← hx1] at c1
        have HX1 : Hid (x1 = xs[i + 1]?.getD 0) := Lib.hid (by rw [hx1, hi1])
        clear hx1 h0 h1 h2 hi1
        by_cases h3 : x1 = 0
        · have b3 : ((x1 : Int) == 0) = true := beq_iff_eq.2 (by omega)
          have HF := Lib.hid (FIN.out 6 (nx_kind HI1.out HQ0.out (by rw [← HX1.out]; exact h3)))
          clear h3
          go_enter Try.func59, Try.ntmps59
          go_wp2_with fail
          exact bodyPost_ret (by simp [results, Try.results59, go_sem]) rfl (HF.out)
        · have b3 : ((x1 : Int) == 0) = false := beq_eq_false_iff_ne.2 (by omega)
          have HQ1 : Hid (xs[i + 1]?.getD 0 ≠ 0) := Lib.hid (by rw [← HX1.out]; exact h3)
          clear h3
          obtain ⟨⟨n, p, e⟩, hr⟩ : ∃ r, rd xs ((i + 2 : Nat) : Int) = r := ⟨_, rfl⟩
          have HRD := Lib.hid hr
          have HUI := Lib.hid (fun w' (hk : Kp w w') => rUint_at (HS.out.keep hk) ((i + 2 : Nat) : Int) (by omega) hr)
          have e2 : ((i + 2 : Nat) : Int) = (i : Int) + 2 := by omega
          rw [e2] at HUI
          clear hr e2
          go_enter Try.func59, Try.ntmps59
          go_wp2_with fail
          refine (HUI.out _ HK.out).mono ?_
          rintro r w' ⟨rfl, rfl⟩
          by_cases he : e = 0
          · subst he
            have hnp := rd_next xs ((i + 2 : Nat) : Int)
            rw [HRD.out] at hnp
            simp only at hnp
            have hpl : (p : Int) ≤ (len : Int) := by have := HL.out; omega
            have hinv := rd_inv HRD.out
            have HP2 : Hid (i + 2 < p) := Lib.hid (by omega)
            by_cases h5 : 2097152 < n
            · have b5 : (2097152 : Int) < (n : Int) := by omega
              have HF := Lib.hid (FIN.out 2 (nx_limit HI1.out HQ0.out HQ1.out HRD.out h5))
              clear hnp hinv h5
              go_wp2_with fail
              exact bodyPost_ret (by simp [results, Try.results59, go_sem]) rfl (HF.out)
            · have b5 : (n : Int) ≤ 2097152 := by omega
              by_cases h6 : len < p + n + 4
              · have b6 : (len : Int) - (p : Int) < (n : Int) + 4 := by omega
                have HF := Lib.hid (FIN.out 7 (nx_end2 HI1.out HQ0.out HQ1.out HRD.out (by omega) (by have := HL.out; omega)))
                clear hnp hinv h5 h6
                go_wp2_with fail
                exact bodyPost_ret (by simp [results, Try.results59, go_sem]) rfl (HF.out)
              · have b6 : (n : Int) + 4 ≤ (len : Int) - (p : Int) := by omega
                have HN2 : Hid (n ≤ 2097152) := Lib.hid (by omega)
                have HPN : Hid (p + n + 4 ≤ xs.length) := Lib.hid (by have := HL.out; omega)
                obtain ⟨q, hq⟩ : ∃ q, q = p + n := ⟨_, rfl⟩
                have hqi : (p : Int) + (n : Int) = (q : Int) := by omega
                have HQ := Lib.hid hq
                have hql : (q : Int) + 4 ≤ (len : Int) := by omega
                have hpq : (p : Int) ≤ (q : Int) := by omega
                have hpi : (i : Int) + 2 < (p : Int) := by have := HP2.out; omega
                obtain ⟨V, hV⟩ : ∃ V, V = sliced (some ⟨b, off, none⟩) i1 q cap 1 := ⟨_, rfl⟩
                have hii1 : i1 ≤ q := by have := HI1E.out; omega
                have hqc : q ≤ cap := by omega
                have hsl : ∀ w, (Instr.slice 48 (.slice (some ⟨b, off, none⟩) len cap) (some (.int .i64 (i1 : Int))) (some (.int .i64 (q : Int))) none).run Try.prog w = .ok V w := fun w => by
                  rw [hV]; exact slice_span _ _ _ _ _ _ _ rfl rfl hii1 hqc w
                have HSS : Hid (∀ w', Kp w w' → Sl w' V ((xs.take q).drop (i + 1))) := Lib.hid (fun w' hk => by
                  rw [hV, ← HI1E.out]; exact (HS.out.keep hk).cut i1 q hii1 (by omega))
                obtain ⟨C, hC⟩ : ∃ C, C = ck ((xs.take q).drop (i + 1)) := ⟨_, rfl⟩
                have HC := Lib.hid hC
                clear hnp hinv h5 h6 hq hV hii1 hqc hC
                go_wp2_with fail
                refine (rChecksum_any (HSS.out _ HK.out)).mono ?_
                rintro r w' ⟨rfl, rfl⟩
                rw [← HC.out]
                have HCK : Hid ((xs.drop q).take 4 = [xs[q]?.getD 0, xs[q + 1]?.getD 0, xs[q + 2]?.getD 0, xs[q + 3]?.getD 0]) := Lib.hid (four xs q (by have := HL.out; omega))
                have d0 := HCELL.out q (by omega)
                obtain ⟨q1, hq1⟩ : ∃ q1, q1 = q + 1 := ⟨_, rfl⟩
                have hq1' : (q : Int) + 1 = (q1 : Int) := by omega
                have d1 := HCELL.out q1 (by omega)
                obtain ⟨q2, hq2⟩ : ∃ q2, q2 = q + 2 := ⟨_, rfl⟩
                have hq2' : (q : Int) + 2 = (q2 : Int) := by omega
                have d2 := HCELL.out q2 (by omega)
                obtain ⟨q3, hq3⟩ : ∃ q3, q3 = q + 3 := ⟨_, rfl⟩
                have hq3' : (q : Int) + 3 = (q3 : Int) := by omega
                have d3 := HCELL.out q3 (by omega)
                rw [← hq1, ← hq2, ← hq3] at HCK
                obtain ⟨y0, hy0⟩ : ∃ y, y = xs[q]?.getD 0 := ⟨_, rfl⟩
                rw [← hy0] at d0 HCK
                obtain ⟨y1, hy1⟩ : ∃ y, y = xs[q1]?.getD 0 := ⟨_, rfl⟩
                rw [← hy1] at d1 HCK
                obtain ⟨y2, hy2⟩ : ∃ y, y = xs[q2]?.getD 0 := ⟨_, rfl⟩
                rw [← hy2] at d2 HCK
                obtain ⟨y3, hy3⟩ : ∃ y, y = xs[q3]?.getD 0 := ⟨_, rfl⟩
                rw [← hy3] at d3 HCK
                have HLE : Hid (le4 C = [C % 256, C / 256 % 256, C / 65536 % 256, C / 16777216 % 256]) := Lib.hid rfl
                obtain ⟨C0, hC0⟩ : ∃ C0, C0 = C % 256 := ⟨_, rfl⟩
                have hC0' : (C : Int) % 256 = (C0 : Int) := by omega
                rw [← hC0] at HLE
                obtain ⟨D1, hD1⟩ : ∃ D, D = C / 256 := ⟨_, rfl⟩
                have hD1' : (C : Int) / 256 = (D1 : Int) := by omega
                obtain ⟨C1, hC1⟩ : ∃ C0, C0 = D1 % 256 := ⟨_, rfl⟩
                have hC1' : (D1 : Int) % 256 = (C1 : Int) := by omega
                rw [← hD1, ← hC1] at HLE
                obtain ⟨D2, hD2⟩ : ∃ D, D = C / 65536 := ⟨_, rfl⟩
                have hD2' : (C : Int) / 65536 = (D2 : Int) := by omega
                obtain ⟨C2, hC2⟩ : ∃ C0, C0 = D2 % 256 := ⟨_, rfl⟩
                have hC2' : (D2 : Int) % 256 = (C2 : Int) := by omega
                rw [← hD2, ← hC2] at HLE
                obtain ⟨D3, hD3⟩ : ∃ D, D = C / 16777216 := ⟨_, rfl⟩
                have hD3' : (C : Int) / 16777216 = (D3 : Int) := by omega
                obtain ⟨C3, hC3⟩ : ∃ C0, C0 = D3 % 256 := ⟨_, rfl⟩
                have hC3' : (D3 : Int) % 256 = (C3 : Int) := by omega
                rw [← hD3, ← hC3] at HLE
                have HE : Hid ((xs.drop q).take 4 = le4 C ↔ y0 = C0 ∧ y1 = C1 ∧ y2 = C2 ∧ y3 = C3) := Lib.hid (by rw [HCK.out, HLE.out]; simp)
                clear hq1 hq2 hq3 hy0 hy1 hy2 hy3 hC0 hC1 hC2 hC3 hD1 hD2 hD3
                by_cases t0 : y0 = C0
                · have e0 : ((y0 : Int) == (C0 : Int)) = true := beq_iff_eq.2 (by omega)
                  have e0' : ((y0 : Int) != (C0 : Int)) = false := by rw [t0]; exact bne_self_eq_false ..
                  by_cases t1 : y1 = C1
                  · have e1 : ((y1 : Int) == (C1 : Int)) = true := beq_iff_eq.2 (by omega)
                    have e1' : ((y1 : Int) != (C1 : Int)) = false := by rw [t1]; exact bne_self_eq_false ..
                    by_cases t2 : y2 = C2
                    · have e2 : ((y2 : Int) == (C2 : Int)) = true := beq_iff_eq.2 (by omega)
                      have e2' : ((y2 : Int) != (C2 : Int)) = false := by rw [t2]; exact bne_self_eq_false ..
                      by_cases t3 : y3 = C3
                      · have e3 : ((y3 : Int) == (C3 : Int)) = true := beq_iff_eq.2 (by omega)
                        have e3' : ((y3 : Int) != (C3 : Int)) = false := by rw [t3]; exact bne_self_eq_false ..
                        have HOK := Lib.hid (HE.out.2 ⟨t0, t1, t2, t3⟩)
                        clear t0 t1 t2 t3
                        obtain ⟨V2, hV2⟩ : ∃ V2, V2 = sliced (some ⟨b, off, none⟩) p q cap 1 := ⟨_, rfl⟩
                        have hqc2 : q ≤ cap := by omega
                        have hpq2 : p ≤ q := by omega
                        have hsl2 : ∀ w, (Instr.slice 48 (.slice (some ⟨b, off, none⟩) len cap) (some (.int .i64 (p : Int))) (some (.int .i64 (q : Int))) none).run Try.prog w = .ok V2 w := fun w => by
                          rw [hV2]; exact slice_span _ _ _ _ _ _ _ rfl rfl hpq2 hqc2 w
                        have hS2 : Sl w V2 ((xs.drop p).take n) := by
                          have := HS.out.cut p q hpq2 (by omega)
                          rwa [← hV2, List.drop_take, show q - p = n by have := HQ.out; omega] at this
                        obtain ⟨w1, hw1⟩ : ∃ w1, w1 = w.alloc (.cells #[.int .i64 0, .slice none 0 0] 80) := ⟨_, rfl⟩
                        have hB := Blk.new w 80 #[.int .i64 0, .slice none 0 0]
                        have hnx := nx_ok HI1.out HQ0.out HQ1.out HRD.out HN2.out HPN.out (by rw [← HQ.out, ← HC.out]; exact HOK.out)
                        obtain ⟨PL, hPL⟩ : ∃ PL, PL = (xs.drop p).take n := ⟨_, rfl⟩
                        rw [← hPL] at hS2 hnx
                        rw [← HX1.out] at hnx
                        have hxb : x1 < 256 := by rw [HX1.out]; exact HS.out.lt _
                        have hxb' : (x1 : Int) < 256 := by omega
                        rw [← hw1] at hB HK c0 c1 d0 d1 d2 d3 ⊢
                        have HS2 := Lib.hid (hS2.keep HK.out)
                        have d0 := hB.cell 0 rfl; have d1 := hB.cell 1 rfl; have f0 := hB.free 0; have f1 := hB.free 1
                        have FIN : Hid (∀ (w4 : World) (ao4 : Option Addr) (l4 cp4 : Nat), Own w1.drew w4 (.slice ao4 l4 cp4) PL →
                            R (.returned (.tuple #[.agg #[.int .i64 (x1 : Nat), .slice ao4 l4 cp4], .int .i64 ((q : Int) + 4), .int .i64 0])) ((w4.setCell ⟨w.heap.size, 0, none⟩ (.int .i64 (x1 : Nat))).setCell ⟨w.heap.size, 1, none⟩ (.slice ao4 l4 cp4))) := Lib.hid (by
                          intro w4 ao4 l4 cp4 ho
                          rw [HR.out]
                          have hlt : w.heap.size < w1.drew.heap.size := hB.lt
                          have hsm4 : PL.length ≤ 140737488355328 := hS2.sm
                          have hs4 := ho.sl hsm4
                          have hn4 := ho.new hsm4
                          have hon : Only w.heap.size w4 ((w4.setCell ⟨w.heap.size, 0, none⟩ (.int .i64 (x1 : Nat))).setCell ⟨w.heap.size, 1, none⟩ (.slice ao4 l4 cp4)) := ((Only.refl _ w4).set 0 _).set 1 _
                          refine ⟨⟨.slice ao4 l4 cp4, ?_, ?_, ?_⟩, Only.kp (Kp.trans HK.out (Kp.trans (kp_drew _) ho.kp)) hon (Nat.le_refl _)⟩
                          · rw [hnx, HQ.out]; simp
                          · rw [hnx]
                            refine hs4.only hon (fun hx a l c e => ?_)
                            have h1 := hn4 a l c e
                            omega
                          · exact hn4.mono (Nat.le_of_lt hlt))
                        have HBK := Lib.hid hB
                        have hwr1 : IntKind.i64.wrap (i1 : Int) = (i1 : Int) := by rw [IntKind.wrap_i64]; omega
                        have hwr4 : IntKind.i64.wrap ((q : Int) + 4) = (q : Int) + 4 := by rw [IntKind.wrap_i64]; omega
                        have hwrx : IntKind.i64.wrap (x1 : Int) = (x1 : Int) := by rw [IntKind.wrap_i64]; omega
                        clear hV2 hqc2 hpq2 hS2 hw1 hB hnx hPL hxb
                        go_wp2_with fail
                        go_region_held3 (fun w' => w'.cell? ⟨b, off + i1, none⟩ = some (.int .u8 (x1 : Nat)))
                          (first
                            | exact c1
                            | exact g1
                            | exact (World.cell?_of_block ((((Only.refl w.heap.size w4).set 0 _).set 1 _).block b HBL.out)).trans g1)
                          (first
                            | (refine step_ap rfl (.const (.slice none 0 0)) (.tmp 128) rfl rfl rfl (Own.start w1.drew) (HS2.out.keep (kp_drew _)) (by have := HS2.out.sm; simpa using this) ?_; intro v4 w4 hown4; rw [List.nil_append] at hown4; obtain ⟨ao4, cp4, rfl, -, -⟩ := hown4.form; have hk4 := Kp.trans (kp_drew w1) hown4.kp; have g1 := cell_kept c1 hk4; have k0 := cell_kept d0 hk4; have k1 := cell_kept d1 hk4; have l0 := (HBK.out.keep hk4).free 0; have l1 := (HBK.out.keep hk4).free 1; have FIN4 := Lib.hid (FIN.out w4 ao4 _ cp4 hown4)))
                        all_goals (go_wp2_with fail; exact bodyPost_ret (by simp [results, Try.results59, go_sem, k0, k1]) rfl FIN4.out)
                      · have e3 : ((y3 : Int) == (C3 : Int)) = false := beq_eq_false_iff_ne.2 (by omega)
                        have e3' : ((y3 : Int) != (C3 : Int)) = true := by rw [bne_iff_ne]; omega
                        have HF := Lib.hid (FIN.out 8 (nx_sum HI1.out HQ0.out HQ1.out HRD.out HN2.out HPN.out (by rw [← HQ.out, ← HC.out]; exact fun h => t3 (HE.out.1 h).2.2.2)))
                        clear t3 t2 t1 t0
                        go_wp2_with fail
                        exact bodyPost_ret (by simp [results, Try.results59, go_sem]) rfl (HF.out)
                    · have e2 : ((y2 : Int) == (C2 : Int)) = false := beq_eq_false_iff_ne.2 (by omega)
                      have e2' : ((y2 : Int) != (C2 : Int)) = true := by rw [bne_iff_ne]; omega
                      have HF := Lib.hid (FIN.out 8 (nx_sum HI1.out HQ0.out HQ1.out HRD.out HN2.out HPN.out (by rw [← HQ.out, ← HC.out]; exact fun h => t2 (HE.out.1 h).2.2.1)))
                      clear t2 t1 t0
                      go_wp2_with fail
                      exact bodyPost_ret (by simp [results, Try.results59, go_sem]) rfl (HF.out)
                  · have e1 : ((y1 : Int) == (C1 : Int)) = false := beq_eq_false_iff_ne.2 (by omega)
                    have e1' : ((y1 : Int) != (C1 : Int)) = true := by rw [bne_iff_ne]; omega
                    have HF := Lib.hid (FIN.out 8 (nx_sum HI1.out HQ0.out HQ1.out HRD.out HN2.out HPN.out (by rw [← HQ.out, ← HC.out]; exact fun h => t1 (HE.out.1 h).2.1)))
                    clear t1 t0
                    go_wp2_with fail
                    exact bodyPost_ret (by simp [results, Try.results59, go_sem]) rfl (HF.out)
                · have e0 : ((y0 : Int) == (C0 : Int)) = false := beq_eq_false_iff_ne.2 (by omega)
                  have e0' : ((y0 : Int) != (C0 : Int)) = true := by rw [bne_iff_ne]; omega
                  have HF := Lib.hid (FIN.out 8 (nx_sum HI1.out HQ0.out HQ1.out HRD.out HN2.out HPN.out (by rw [← HQ.out, ← HC.out]; exact fun h => t0 (HE.out.1 h).1)))
                  clear t0
                  go_wp2_with fail
                  exact bodyPost_ret (by simp [results, Try.results59, go_sem]) rfl (HF.out)
          · have b4 : ((e : Int) == 0) = false := beq_eq_false_iff_ne.2 (by omega)
            have b4' : ((e : Int) != 0) = true := by rw [bne_iff_ne]; omega
            have HF := Lib.hid (FIN.out e (nx_len HI1.out HQ0.out HQ1.out HRD.out he))
            clear he
            go_wp2_with fail
            exact bodyPost_ret (by simp [results, Try.results59, go_sem]) rfl (HF.out)
    · have b1 : ((x0 : Int) == 247) = false := beq_eq_false_iff_ne.2 (by omega)
      have b1' : ((x0 : Int) != 247) = true := by rw [bne_iff_ne]; omega
      have HF := Lib.hid (FIN.out 6 (nx_mark (by have := HL.out; omega) (by rw [← HX0.out]; exact h1)))
      clear h1 h0
      go_enter Try.func59, Try.ntmps59
      go_wp2_with fail
      exact bodyPost_ret (by simp [results, Try.results59, go_sem]) rfl (HF.out)
end By
end Go.Proofs.Ytlfoikjbbbhbdaa

