/- Sums of lists of small fractions, in lowest terms: they stay small. Conditions: each fraction is in lowest terms, between 0 and 1, and its denominator is at most 1000. -/
import Derived.Test.YtdoponlhiidimaaGreatDoorMCa
import Derived.Test.YtdoponlhiidimaaGreatDoorBoth
import Derived.Test.YtdoponlhiidimaaGreatDoorQRow
namespace Go.Proofs.YtdoponlhiidimaaGreatDoor
open Go.RowKit LimbN
set_option linter.unusedVariables false
set_option linter.unusedSimpArgs false

/-- one more summand. -/
def qadd (t p : Nat × Nat) : Nat × Nat := FracN.low (t.1 * p.2 + p.1 * t.2) (t.2 * p.2)
/-- the sum of a list. -/
def qsum (l : List (Nat × Nat)) : Nat × Nat := l.foldl qadd (0, 1)
/-- a small fraction. -/
structure QGood (p : Nat × Nat) : Prop where
  pos : 0 < p.2
  le : p.2 ≤ 1000
  one : p.1 ≤ p.2
  low : Nat.gcd p.1 p.2 = 1
theorem qsum_succ {l : List (Nat × Nat)} {i : Nat} {p : Nat × Nat} (h : l[i]? = some p) : qsum (l.take (i + 1)) = qadd (qsum (l.take i)) p := by
  unfold qsum
  rw [List.take_add_one, h, List.foldl_append]
  rfl
structure QSmall (t : Nat × Nat) (i : Nat) : Prop where
  pos : 0 < t.2
  low : Nat.gcd t.1 t.2 = 1
  num : t.1 ≤ 2000 ^ i
  den : t.2 ≤ 2000 ^ i
theorem QSmall.start : QSmall (0, 1) 0 := ⟨by decide, by decide, by decide, by decide⟩
theorem QSmall.succ {t p : Nat × Nat} {i : Nat} (h : QSmall t i) (g : QGood p) : QSmall (qadd t p) (i + 1) := by
  have hp : 0 < t.2 * p.2 := Nat.mul_pos h.pos g.pos
  have hl := FracN.low_le_self (t.1 * p.2 + p.1 * t.2) (t.2 * p.2)
  have e : 2000 ^ (i + 1) = 2000 ^ i * 1000 + 1000 * 2000 ^ i := by rw [Nat.pow_succ]; omega
  have h1 : t.1 * p.2 ≤ 2000 ^ i * 1000 := Nat.mul_le_mul h.num g.le
  have h2 : p.1 * t.2 ≤ 1000 * 2000 ^ i := Nat.mul_le_mul (Nat.le_trans g.one g.le) h.den
  have h3 : t.2 * p.2 ≤ 2000 ^ i * 1000 := Nat.mul_le_mul h.den g.le
  exact ⟨FracN.low_pos hp, FracN.low_gcd hp, by unfold qadd; omega, by unfold qadd; omega⟩
theorem QSmall.len {t : Nat × Nat} {i : Nat} (h : QSmall t i) (hi : i ≤ 9) : (limbs t.1).length ≤ 8 ∧ (limbs t.2).length ≤ 8 := by
  have h1 : 2000 ^ i ≤ 2000 ^ 9 := Nat.pow_le_pow_right (by decide) hi
  have h2 : (limbs (2000 ^ 9)).length ≤ 8 := by decide +kernel
  exact ⟨Nat.le_trans (limbs_mono (Nat.le_trans h.num h1)) h2, Nat.le_trans (limbs_mono (Nat.le_trans h.den h1)) h2⟩
theorem QGood.len {p : Nat × Nat} (h : QGood p) : (limbs p.1).length ≤ 8 ∧ (limbs p.2).length ≤ 8 := by
  have h2 : (limbs 1000).length ≤ 8 := by decide +kernel
  exact ⟨Nat.le_trans (limbs_mono (Nat.le_trans h.one h.le)) h2, Nat.le_trans (limbs_mono h.le) h2⟩
theorem qsum_small {l : List (Nat × Nat)} (h : ∀ p ∈ l, QGood p) : ∀ i, i ≤ l.length → QSmall (qsum (l.take i)) i
  | 0, _ => QSmall.start
  | i + 1, hi => by
    have h1 : l[i]? = some l[i] := List.getElem?_eq_getElem (by omega)
    rw [qsum_succ h1]
    exact (qsum_small h i (by omega)).succ (h _ (List.getElem_mem _))
/-- The items are small fractions. -/
structure QNum (ts : List QItem) (ps : List (Nat × Nat)) : Prop where
  len : ts.length = ps.length
  few : ps.length ≤ 9
  good : ∀ p ∈ ps, QGood p
  at' : ∀ (i : Nat) (t : QItem) (p : Nat × Nat), ts[i]? = some t → ps[i]? = some p → t.n = limbs p.1 ∧ t.d = limbs p.2
theorem QNum.nil : QNum [] [] := ⟨rfl, by decide, fun p hp => by simp at hp, fun i t p h => by simp at h⟩
theorem QNum.snoc {ts : List QItem} {ps : List (Nat × Nat)} {n d : Nat} {vn vd : Value} (h : QNum ts ps) (hl : ps.length < 9) (hg : QGood (n, d)) : QNum (ts ++ [⟨limbs n, limbs d, vn, vd⟩]) (ps ++ [(n, d)]) := by
  refine ⟨by simp [h.len], by simp; omega, fun p hp => ?_, fun i t p ht hp => ?_⟩
  · rcases List.mem_append.1 hp with hp | hp
    · exact h.good p hp
    · obtain rfl : p = (n, d) := by simpa using hp
      exact hg
  · rcases Nat.lt_trichotomy i ts.length with hi | hi | hi
    · rw [List.getElem?_append_left hi] at ht
      rw [List.getElem?_append_left (by rw [← h.len]; exact hi)] at hp
      exact h.at' i t p ht hp
    · subst hi
      rw [List.getElem?_append_right (Nat.le_refl _)] at ht
      rw [List.getElem?_append_right (by rw [h.len]; exact Nat.le_refl _), h.len] at hp
      simp at ht hp
      subst ht hp
      exact ⟨rfl, rfl⟩
    · rw [List.getElem?_eq_none (by simp; omega)] at ht; cases ht
theorem QNum.get {ts : List QItem} {ps : List (Nat × Nat)} (h : QNum ts ps) {i : Nat} (hi : i < ts.length) :
    ∃ t n d, ts[i]? = some t ∧ ps[i]? = some (n, d) ∧ t.n = limbs n ∧ t.d = limbs d ∧ QGood (n, d) := by
  have h1 : ts[i]? = some ts[i] := List.getElem?_eq_getElem hi
  have hj : i < ps.length := by rw [← h.len]; exact hi
  have h2 : ps[i]? = some ps[i] := List.getElem?_eq_getElem hj
  exact ⟨_, _, _, h1, h2, (h.at' i _ _ h1 h2).1, (h.at' i _ _ h1 h2).2, h.good _ (List.getElem_mem hj)⟩
theorem QGood.ok {n d : Nat} (h : QGood (n, d)) : frOk (limbs n) (limbs d) = true := frOk_n (len8 h.len.1) (len8 h.len.2) (Nat.ne_of_gt h.pos) h.low
end Go.Proofs.YtdoponlhiidimaaGreatDoor

/- Whether a list of fractions has one that is not well-formed. Condition: the slice reads as the fractions that are named. -/
namespace Go.Proofs.YtdoponlhiidimaaGreatDoor
open Go.RowKit LimbN
set_option linter.unusedVariables false
set_option linter.unusedSimpArgs false

set_option maxRecDepth 100000 in
theorem SumBad_any {xs ys : List Nat} {va vb : Value} {w : World} (ha : Sl w va xs) (hb : Sl w vb ys) :
    Calls Tryz.prog 28 #[.agg #[va, vb]] w fun e w' => e = .returned (.bool (!frOk xs ys)) ∧ Kp w w' := by
  obtain ⟨ao, al, ac, rfl⟩ := ha.open3
  obtain ⟨bo, bl, bc, rfl⟩ := hb.open3
  obtain ⟨w1, hw1, HK1, HB1, hz1⟩ := box2 w 26 (.slice ao al ac) (.slice bo bl bc)
  have HA := Lib.hid (ha.keep HK1.out); have HB := Lib.hid (hb.keep HK1.out)
  have c0 := HB1.out.c0; have c1 := HB1.out.c1
  have HW := Lib.hid hw1
  rw [hw1] at c0 c1
  clear ha hb hw1 hz1 HB1
  go_enter Tryz.func28, Tryz.ntmps28
  go_wp2_with fail
  rw [← HW.out]
  clear c0 c1
  refine (Check_any HA.out HB.out).mono ?_
  rintro e w2 ⟨rfl, hk⟩
  have HK := Lib.hid (Kp.trans HK1.out hk)
  clear hk
  obtain ⟨B, hB⟩ : ∃ B, B = frOk xs ys := ⟨_, rfl⟩
  rw [← hB]
  have HBE := Lib.hid hB
  clear hB
  go_wp2_with fail
  go_ret
  exact ⟨by rw [← HBE.out]; rfl, HK.out⟩
/-- Whether one of the fractions is not well-formed. -/
def qbad (ts : List QItem) : Bool := ts.any fun t => !frOk t.n t.d
theorem qbad_yes {ts : List QItem} {i : Nat} {t : QItem} (h : ts[i]? = some t) (hf : frOk t.n t.d = false) : qbad ts = true := by
  unfold qbad
  rw [List.any_eq_true]
  exact ⟨t, List.mem_of_getElem? h, by simp [hf]⟩
theorem qbad_no {ts : List QItem} (h : ∀ (i : Nat) (t : QItem), ts[i]? = some t → frOk t.n t.d = true) : qbad ts = false := by
  unfold qbad
  rw [List.any_eq_false]
  intro t ht
  obtain ⟨i, hi, rfl⟩ := List.getElem_of_mem ht
  have := h i _ (List.getElem?_eq_getElem hi)
  simp [this]
set_option maxRecDepth 100000 in
set_option maxHeartbeats 1000000 in
theorem QIndex_any {v : Value} {ts : List QItem} {w : World} (hs : QS w v ts) (hn : ts.length ≤ 100000) :
    Calls Tryz.prog 49 #[v, .func (.func 28) #[] #[]] w fun e w' => ∃ r : Int, e = .returned (.int .i64 r) ∧ decide (0 ≤ r) = qbad ts ∧ Kp w w' := by
  obtain ⟨ao, cap, rfl, -⟩ := hs.ex
  obtain ⟨len, hlen⟩ : ∃ len, len = ts.length := ⟨_, rfl⟩
  obtain ⟨Q, hQ⟩ : ∃ Q, Q = qbad ts := ⟨_, rfl⟩
  have HQ := Lib.hid hQ
  rw [← hlen] at hs hn ⊢
  rw [← hQ]
  have HS := Lib.hid hs; have HL := Lib.hid hlen
  clear hs hlen hQ
  go_enter Tryz.func49, Tryz.ntmps49
  go_wp2_with fail
  go_loopw [8] (fun iv wy => ∃ k : Nat, k ≤ len ∧ iv = .int .i64 k ∧ Kp w wy ∧ Hid (∀ (j : Nat) (t : QItem), j < k → ts[j]? = some t → frOk t.n t.d = true)) (fun iv _ => len - (intOf iv).toNat)
  case atStart => exact ⟨0, Nat.zero_le _, rfl, Kp.refl _, fun j t hj => absurd hj (by omega)⟩
  case round =>
    obtain ⟨k, hk, rfl, hkp, hz⟩ := hrel
    have HKP := Lib.hid hkp
    clear hkp
    by_cases hkl : k < len
    · have ht : ts[k]? = some (ts[k]'(by have := HL.out; omega)) := List.getElem?_eq_getElem _
      obtain ⟨t, et⟩ : ∃ t, t = (ts[k]'(by have := HL.out; omega)) := ⟨_, rfl⟩
      rw [← et] at ht
      obtain ⟨g, rfl, k0, k1, s0, s1⟩ := (HS.out.keep HKP.out).at rfl ht
      have HTT := Lib.hid ht; have S0 := Lib.hid s0; have S1 := Lib.hid s1
      obtain ⟨no, nl, nc, e0⟩ := s0.open3
      obtain ⟨do', dl, dc, e1⟩ := s1.open3
      rw [e0] at k0
      rw [e1] at k1
      rw [e0] at S0
      rw [e1] at S1
      clear et ht s0 s1 e0 e1
      cases hf : frOk t.n t.d with
      | true =>
        have HF := Lib.hid hf
        clear hf
        go_wp2_with fail
        refine (SumBad_any S0.out S1.out).mono ?_
        rintro e w2 ⟨rfl, hk2⟩
        rw [HF.out]
        have HK2 := Lib.hid (Kp.trans HKP.out hk2)
        clear hk2
        go_wp2_with fail
        go_roundw
        case rel => exact ⟨k + 1, by omega, vint (by omega), HK2.out, fun j t' hj h => by
          by_cases hjk : j = k
          · subst hjk
            have e := HTT.out
            rw [h] at e
            injection e with e
            rw [e]; exact HF.out
          · exact hz.out j t' (by omega) h⟩
        case measure => simp [intOf]; omega
      | false =>
        have HF := Lib.hid hf
        clear hf
        have FIN : Hid (decide ((0 : Int) ≤ (k : Int)) = Q) := by
          show _ = _
          rw [HQ.out, qbad_yes HTT.out HF.out]
          exact decide_eq_true (by omega)
        go_wp2_with fail
        refine (SumBad_any S0.out S1.out).mono ?_
        rintro e w2 ⟨rfl, hk2⟩
        rw [HF.out]
        have HK2 := Lib.hid (Kp.trans HKP.out hk2)
        clear hk2
        go_wp2_with fail
        go_ret
        exact ⟨_, rfl, FIN.out, HK2.out⟩
    · have FIN : Hid (decide ((0 : Int) ≤ -1) = Q) := by
        show _ = _
        rw [HQ.out, qbad_no (fun i t h => hz.out i t (by
          have := HL.out
          rcases Nat.lt_or_ge i ts.length with h1 | h1
          · omega
          · rw [List.getElem?_eq_none h1] at h; cases h) h)]
        rfl
      go_wp2_with fail
      go_ret
      exact ⟨_, rfl, FIN.out, HKP.out⟩
set_option maxRecDepth 100000 in
theorem QContains_any {v : Value} {ts : List QItem} {w : World} (hs : QS w v ts) (hn : ts.length ≤ 100000) :
    Calls Tryz.prog 27 #[v, .func (.func 28) #[] #[]] w fun e w' => e = .returned (.bool (qbad ts)) ∧ Kp w w' := by
  have C := Lib.hid (QIndex_any hs hn)
  clear hs
  obtain ⟨Q, hQ⟩ : ∃ Q, Q = qbad ts := ⟨_, rfl⟩
  rw [← hQ] at C ⊢
  clear hQ
  go_enter Tryz.func27, Tryz.ntmps27
  go_wp2_with fail
  refine C.out.mono ?_
  rintro e w2 ⟨r, rfl, hr, hk⟩
  have HR := Lib.hid hr; have HK := Lib.hid hk
  clear hr hk
  go_wp2_with fail
  go_ret
  rw [← HR.out]
  exact ⟨rfl, HK.out⟩
end Go.Proofs.YtdoponlhiidimaaGreatDoor

/- One more summand, by the program's own closure, and the fold over a list of small fractions. Conditions: the slice reads as the fractions that are named, which are small; the closure's variable holds no error. -/
namespace Go.Proofs.YtdoponlhiidimaaGreatDoor
open Go.RowKit LimbN
set_option linter.unusedVariables false
set_option linter.unusedSimpArgs false

theorem fadd_low {a b c d : Nat} {va vb vc vd : Value} {w : World} (hb0 : b ≠ 0) (hd0 : d ≠ 0) (hab : Nat.gcd a b = 1) (hcd : Nat.gcd c d = 1) (hs : (limbs (a * d + c * b)).length ≤ 128) (ht : (limbs (b * d)).length ≤ 128)
    (ha : Sl w va (limbs a)) (hb : Sl w vb (limbs b)) (hcc : Sl w vc (limbs c)) (hd : Sl w vd (limbs d)) :
    Calls Tryz.prog 32 #[.agg #[va, vb], .agg #[vc, vd]] w (MkR 0 (FracN.low (a * d + c * b) (b * d)) w) := by
  obtain ⟨g, fa, fb, k, den, hp, he⟩ := PN.of hb0 hd0 hab hcd hs ht
  rw [← he]
  exact fadd_n hp ha hb hcc hd
/-- What the closure answers: the sum; its variable still holds no error. -/
structure SumR (ge B : Nat) (p : Nat × Nat) (w : World) (e : Ending) (w' : World) : Prop where
  ex : ∃ vn vd, e = .returned (.agg #[vn, vd]) ∧ Sl w' vn (limbs p.1) ∧ Sl w' vd (limbs p.2) ∧ New B vn ∧ New B vd
  ce : Blk w' ge 28 #[.int .i64 0]
  gr : Gr ge w w'
theorem Blk.same {w : World} {g : Nat} {t : TypeId} {u : Value} (h : Blk w g t #[u]) : Blk (w.setCell ⟨g, 0, none⟩ u) g t #[u] := by
  have := h.set 0 u
  exact this
set_option maxRecDepth 100000 in
set_option maxHeartbeats 4000000 in
theorem SumAdd_any {a b c d ge : Nat} {va vb vc vd : Value} {w : World} (he : Blk w ge 28 #[.int .i64 0]) (hb0 : b ≠ 0) (hd0 : d ≠ 0) (hab : Nat.gcd a b = 1) (hcd : Nat.gcd c d = 1) (hs : (limbs (a * d + c * b)).length ≤ 128) (ht : (limbs (b * d)).length ≤ 128)
    (ha : Sl w va (limbs a)) (hb : Sl w vb (limbs b)) (hcc : Sl w vc (limbs c)) (hd : Sl w vd (limbs d)) :
    Calls Tryz.prog 31 #[.agg #[va, vb], .agg #[vc, vd], .pointer (some ⟨ge, 0, none⟩)] w (SumR ge w.heap.size (qadd (a, b) (c, d)) w) := by
  obtain ⟨ao, al, ac, rfl⟩ := ha.open3
  obtain ⟨bo, bl, bc, rfl⟩ := hb.open3
  obtain ⟨co, cl, cc, rfl⟩ := hcc.open3
  obtain ⟨do', dl, dc, rfl⟩ := hd.open3
  have hgw : ge < w.heap.size := he.lt
  obtain ⟨w1, hw1, HK1, HB1, hz1⟩ := box2 w 26 (.slice ao al ac) (.slice bo bl bc)
  obtain ⟨w2, hw2, HK2, HB2, hz2⟩ := box2 w1 26 (.slice co cl cc) (.slice do' dl dc)
  obtain ⟨w3, hw3, HK3, HB3, hz3⟩ := start2 w2 26
  have hs1 : w1.heap.size = w.heap.size + 1 := by rw [hw1]; simp
  have hs2 : w2.heap.size = w.heap.size + 1 + 1 := by rw [hw2, ← hs1]; simp
  rw [hs1] at HB2
  rw [hs2] at HB3
  have hk13 := Kp.trans HK2.out HK3.out
  have hk03 := Kp.trans HK1.out hk13
  have HK03 := Lib.hid hk03
  have HA := Lib.hid (ha.keep hk03); have HB := Lib.hid (hb.keep hk03); have HCC := Lib.hid (hcc.keep hk03); have HD := Lib.hid (hd.keep hk03)
  have HT1 := Lib.hid (HB1.out.keep hk13); have HT2 := Lib.hid (HB2.out.keep HK3.out)
  have HE := Lib.hid (he.keep hk03)
  have c10 := HT1.out.c0; have c11 := HT1.out.c1; have c20 := HT2.out.c0; have c21 := HT2.out.c1
  have ce := HE.out.cell 0 rfl
  have hw : w3 = ((w.alloc (Obj.cells #[.slice ao al ac, .slice bo bl bc] 26)).alloc (Obj.cells #[.slice co cl cc, .slice do' dl dc] 26)).alloc (Obj.cells #[.slice none 0 0, .slice none 0 0] 26) := by rw [hw3, hw2, hw1]
  have HZ : Hid (w.heap.size + 1 + 1 < w3.heap.size) := by show _ < _; omega
  rw [hw] at c10 c11 c20 c21 ce
  have HW := Lib.hid hw
  have HS := Lib.hid hs; have HTT := Lib.hid ht; have HAB := Lib.hid hab; have HCD := Lib.hid hcd
  have HGW := Lib.hid hgw
  obtain ⟨P, hP⟩ : ∃ P, P = FracN.low (a * d + c * b) (b * d) := ⟨_, rfl⟩
  have HP := Lib.hid hP
  have eq : qadd (a, b) (c, d) = P := by rw [hP]; rfl
  rw [eq]
  clear hw1 hw2 hw3 hs1 hs2 hk13 hk03 ha hb hcc hd hz1 hz2 hz3 hw HK1 HK2 HK3 HB1 HB2 hab hcd hs ht he hP eq
  go_enter Tryz.func31, Tryz.ntmps31
  go_wp2_with fail
  rw [← HW.out]
  refine (fadd_low hb0 hd0 HAB.out HCD.out HS.out HTT.out HA.out HB.out HCC.out HD.out).mono ?_
  intro e w4 hq
  rw [← HP.out] at hq
  obtain ⟨⟨vn, vz, rfl, h1, h2, h3, h4⟩, hk⟩ := hq
  have HK4 := Lib.hid hk
  have HN := Lib.hid h1; have HV := Lib.hid h2; have HNN := Lib.hid h3; have HVN := Lib.hid h4
  obtain ⟨no, nl, nc, rfl⟩ := h1.open3
  obtain ⟨zo, zl, zc, rfl⟩ := h2.open3
  clear c10 c11 c20 c21 ce h1 h2 h3 h4 hk
  have ne1 : w.heap.size ≠ ge := by have := HGW.out; omega
  have ne2 : w.heap.size + 1 + 1 ≠ ge := by have := HGW.out; omega
  have ne3 : w.heap.size + 1 + 1 ≠ w.heap.size := by omega
  have T1 := HT1.out.keep HK4.out; have T3 := HB3.out.keep HK4.out; have E4 := HE.out.keep HK4.out
  have p1 := Put.made T1 (.slice no nl nc) (.slice zo zl zc)
  have f10 := T1.free 0; have c10 := T1.c0; have f11 := (T1.set0 (.slice no nl nc)).free 1; have c11 := (T1.set0 (.slice no nl nc)).c1
  obtain ⟨X1, hX1⟩ : ∃ X1, X1 = (w4.setCell ⟨w.heap.size, 0, none⟩ (.slice no nl nc)).setCell ⟨w.heap.size, 1, none⟩ (.slice zo zl zc) := ⟨_, rfl⟩
  rw [← hX1] at p1
  have E1 := E4.other p1.only ne1.symm
  have fe := E1.free 0; have ce := E1.cell 0 rfl
  have E2 := E1.same
  obtain ⟨X2, hX2⟩ : ∃ X2, X2 = X1.setCell ⟨ge, 0, none⟩ (.int .i64 0) := ⟨_, rfl⟩
  rw [← hX2] at E2
  have o2 : Only ge X1 X2 := by rw [hX2]; exact (Only.refl ge X1).set 0 _
  have T1' : Two X2 w.heap.size 26 (.slice no nl nc) (.slice zo zl zc) := ⟨(o2.block _ ne1).trans p1.two.blk⟩
  have T3' : Two X2 (w.heap.size + 1 + 1) 26 (.slice none 0 0) (.slice none 0 0) := ⟨(o2.block _ ne2).trans ((p1.only.block _ ne3).trans T3.blk)⟩
  have l0 := T1'.c0; have l1 := T1'.c1
  have p3 := Put.made T3' (.slice no nl nc) (.slice zo zl zc)
  have f30 := T3'.free 0; have c30 := T3'.c0; have f31 := (T3'.set0 (.slice no nl nc)).free 1; have c31 := (T3'.set0 (.slice no nl nc)).c1
  obtain ⟨X3, hX3⟩ : ∃ X3, X3 = (X2.setCell ⟨w.heap.size + 1 + 1, 0, none⟩ (.slice no nl nc)).setCell ⟨w.heap.size + 1 + 1, 1, none⟩ (.slice zo zl zc) := ⟨_, rfl⟩
  rw [← hX3] at p3
  have E3 := E2.other p3.only ne2.symm
  have GR : Hid (Gr ge w X3) := by
    show Gr ge w X3
    refine Gr.by (Gr.trans (Gr.by ((Kp.trans HK03.out HK4.out).gr ge) p1.only.gr (fun r hr => by injection hr with hr; omega)) o2.gr) p3.only.gr (fun r hr => by injection hr with hr; omega)
  have z4 : w3.heap.size ≤ w4.heap.size := HK4.out.size
  have z3 := HZ.out
  have SN : Hid (Sl X3 (.slice no nl nc) (limbs P.1)) := ((HN.out.only p1.only (HNN.out.offs (by omega) _)).only o2 (HNN.out.offs (by have := HGW.out; omega) _)).only p3.only (HNN.out.offs (by omega) _)
  have SV : Hid (Sl X3 (.slice zo zl zc) (limbs P.2)) := ((HV.out.only p1.only (HVN.out.offs (by omega) _)).only o2 (HVN.out.offs (by have := HGW.out; omega) _)).only p3.only (HVN.out.offs (by omega) _)
  have FIN : Hid (SumR ge w.heap.size P w (.returned (.agg #[.slice no nl nc, .slice zo zl zc])) X3) := ⟨⟨_, _, rfl, SN.out, SV.out, HNN.out.mono HK03.out.size, HVN.out.mono HK03.out.size⟩, E3, GR.out⟩
  have TW := Lib.hid p3.two
  have HX1 := Lib.hid hX1; have HX2 := Lib.hid hX2; have HX3 := Lib.hid hX3
  rw [hX1] at fe ce
  rw [hX2, hX1] at l0 l1 f30 c30 f31 c31
  clear T1 T3 E4 p1 E1 E2 o2 T1' T3' p3 E3 ne1 ne2 ne3 z4 z3 hX1 hX2 hX3
  go_wp2_with fail
  rw [← HX1.out, ← HX2.out, ← HX3.out]
  clear f10 c10 f11 c11 fe ce l0 l1 f30 c30 f31 c31
  have c0 := TW.out.c0
  have c1 := TW.out.c1
  exact bodyPost_ret (by simp [results, Tryz.results31, go_sem, c0, c1]) rfl FIN.out
/-- How the fold's memory stands between two rounds. -/
structure FoldI (w wy : World) (ge B : Nat) (p : Nat × Nat) : Prop where
  two : ∃ vn vd, Two wy (w.heap.size + 1 + 1) 26 vn vd ∧ Sl wy vn (limbs p.1) ∧ Sl wy vd (limbs p.2) ∧ New B vn ∧ New B vd ∧ Off (w.heap.size + 1) vn (limbs p.1) ∧ Off (w.heap.size + 1) vd (limbs p.2)
  res : Two wy (w.heap.size + 1) 26 (.slice none 0 0) (.slice none 0 0)
  ce : Blk wy ge 28 #[.int .i64 0]
  gr : Gr ge w wy
  lt : w.heap.size + 1 + 1 < wy.heap.size
set_option maxRecDepth 100000 in
set_option maxHeartbeats 8000000 in
theorem fold_any {w0 w : World} {v vn vd : Value} {ts : List QItem} {ps : List (Nat × Nat)} {ge : Nat} (hq : QS w0 v ts) (hn : QNum ts ps) (hk : Kp w0 w) (hge : w0.heap.size ≤ ge) (he : Blk w ge 28 #[.int .i64 0])
    (h1 : Sl w vn (limbs 0)) (h2 : Sl w vd (limbs 1)) (n1 : New w0.heap.size vn) (n2 : New w0.heap.size vd) :
    Calls Tryz.prog 29 #[v, .agg #[vn, vd], .func (.func 31) #[] #[.pointer (some ⟨ge, 0, none⟩)]] w (SumR ge w0.heap.size (qsum ps) w) := by
  obtain ⟨lo, lc, rfl, -⟩ := hq.ex
  obtain ⟨so, sl, sc, rfl⟩ := h1.open3
  obtain ⟨uo, ul, uc, rfl⟩ := h2.open3
  have hgw : ge < w.heap.size := he.lt
  obtain ⟨len, hlen⟩ : ∃ len, len = ts.length := ⟨_, rfl⟩
  have hl9 : len ≤ 9 := by rw [hlen, hn.len]; exact hn.few
  obtain ⟨w1, hw1, HK1, HB1, hz1⟩ := box2 w 26 (.slice so sl sc) (.slice uo ul uc)
  obtain ⟨w2, hw2, HK2, HB2, hz2⟩ := start2 w1 26
  obtain ⟨w3, hw3, HK3, HB3, hz3⟩ := box2 w2 26 (.slice so sl sc) (.slice uo ul uc)
  have hs1 : w1.heap.size = w.heap.size + 1 := by rw [hw1]; simp
  have hs2 : w2.heap.size = w.heap.size + 1 + 1 := by rw [hw2, ← hs1]; simp
  rw [hs1] at HB2
  rw [hs2] at HB3
  have T1 := HB1.out.keep HK2.out
  have c10 := T1.c0; have c11 := T1.c1
  rw [hw2, hw1] at c10 c11
  have hw : w3 = ((w.alloc (Obj.cells #[.slice so sl sc, .slice uo ul uc] 26)).alloc (Obj.cells #[.slice none 0 0, .slice none 0 0] 26)).alloc (Obj.cells #[.slice so sl sc, .slice uo ul uc] 26) := by rw [hw3, hw2, hw1]
  have hk03 := Kp.trans HK1.out (Kp.trans HK2.out HK3.out)
  have INI : Hid (FoldI w w3 ge w0.heap.size (0, 1)) := ⟨⟨_, _, HB3.out, h1.keep hk03, h2.keep hk03, n1, n2, h1.off (by omega), h2.off (by omega)⟩, HB2.out.keep HK3.out, he.keep hk03, hk03.gr ge, by omega⟩
  have HW := Lib.hid hw; have HQ := Lib.hid hq; have HN := Lib.hid hn; have HL := Lib.hid hlen; have HK := Lib.hid hk; have HGE := Lib.hid hge; have HGW := Lib.hid hgw
  rw [← hlen]
  clear hw hw1 hw2 hw3 hs1 hs2 hk03 h1 h2 n1 n2 hq hn hlen hk hge hgw he T1 HB1 HB2 HB3 HK1 HK2 HK3 hz1 hz2 hz3
  go_enter Tryz.func29, Tryz.ntmps29
  go_wp2_with fail
  rw [← HW.out]
  clear c10 c11
  go_loopw [13] (fun iv wy => ∃ k : Nat, k ≤ len ∧ iv = .int .i64 k ∧ FoldI w wy ge w0.heap.size (qsum (ps.take k))) (fun iv _ => len - (intOf iv).toNat)
  case atStart => exact ⟨0, Nat.zero_le _, rfl, INI.out⟩
  case round =>
    obtain ⟨k, hk, rfl, hI⟩ := hrel
    have HI := Lib.hid hI
    obtain ⟨⟨xn, xd, tw, s1, s2, m1, m2, O1, O2⟩, res, ce, gr, lt⟩ := hI
    by_cases hkl : k < len
    · obtain ⟨t, n, d, ht, hp, en, ed, good⟩ := HN.out.get (i := k) (by have := HL.out; omega)
      have hkp : Kp w0 wr := gr.kp HK.out HGE.out
      obtain ⟨g, rfl, k0, k1, s3, s4⟩ := (HQ.out.keep hkp).at rfl ht
      rw [en] at s3
      rw [ed] at s4
      obtain ⟨no, nl, nc, e0⟩ := s3.open3
      obtain ⟨do', dl, dc, e1⟩ := s4.open3
      rw [e0] at k0 s3
      rw [e1] at k1 s4
      obtain ⟨xo, xl, xc, rfl⟩ := s1.open3
      obtain ⟨yo, yl, yc, rfl⟩ := s2.open3
      obtain ⟨W1, hW1, KW1, BW1, zW1⟩ := box2 wr 26 (.slice no nl nc) (.slice do' dl dc)
      have sm := qsum_small HN.out.good k (by rw [← HN.out.len, ← HL.out]; omega)
      have ln := sm.len (by omega)
      have lg := good.len
      have HSM := Lib.hid sm; have HLN := Lib.hid ln; have HLG := Lib.hid lg; have HGOOD := Lib.hid good
      have S1 := Lib.hid (s1.keep KW1.out); have S2 := Lib.hid (s2.keep KW1.out); have S3 := Lib.hid (s3.keep KW1.out); have S4 := Lib.hid (s4.keep KW1.out)
      have TW := Lib.hid (tw.keep KW1.out)
      have CE := Lib.hid (ce.keep KW1.out)
      have q0 := TW.out.c0; have q1 := TW.out.c1; have q2 := BW1.out.c0; have q3 := BW1.out.c1
      rw [hW1] at q0 q1 q2 q3
      have HW1 := Lib.hid hW1
      have HQS := Lib.hid (qsum_succ hp)
      have ZW := Lib.hid zW1
      clear tw s1 s2 m1 m2 O1 O2 res ce gr lt ht hp en ed good hkp s3 s4 e0 e1 hW1 zW1 sm ln lg
      go_wp2_with fail
      rw [← HW1.out]
      clear q0 q1 q2 q3 k0 k1
      refine (SumAdd_any CE.out (Nat.ne_of_gt HSM.out.pos) (Nat.ne_of_gt HGOOD.out.pos) HSM.out.low HGOOD.out.low (Nat.le_trans (add_len (mul_len HLN.out.1 HLG.out.2) (mul_len HLG.out.1 HLN.out.2)) (by decide)) (Nat.le_trans (mul_len HLN.out.2 HLG.out.2) (by decide)) S1.out S2.out S3.out S4.out).mono ?_
      intro e w4 hq
      obtain ⟨⟨vn, vz, rfl, h1, h2, h3, h4⟩, he, hg⟩ := hq
      obtain ⟨po, pl, pc, rfl⟩ := h1.open3
      obtain ⟨ro, rl, rc, rfl⟩ := h2.open3
      have ne : w.heap.size + 1 + 1 ≠ ge := by have := HGW.out; omega
      have ne' : w.heap.size + 1 ≠ ge := by have := HGW.out; omega
      have ne2 : w.heap.size + 1 ≠ w.heap.size + 1 + 1 := by omega
      have T4 : Two w4 (w.heap.size + 1 + 1) 26 (.slice xo xl xc) (.slice yo yl yc) := ⟨(hg.block _ TW.out.lt (fun e => ne (by injection e))).trans TW.out.blk⟩
      have R4 : Two w4 (w.heap.size + 1) 26 (.slice none 0 0) (.slice none 0 0) := ⟨(hg.block _ (HI.out.res.keep KW1.out).lt (fun e => ne' (by injection e))).trans (HI.out.res.keep KW1.out).blk⟩
      have p4 := Put.made T4 (.slice po pl pc) (.slice ro rl rc)
      have f0 := T4.free 0; have c0 := T4.c0; have f1 := (T4.set0 (.slice po pl pc)).free 1; have c1 := (T4.set0 (.slice po pl pc)).c1
      obtain ⟨X, hX⟩ : ∃ X, X = (w4.setCell ⟨w.heap.size + 1 + 1, 0, none⟩ (.slice po pl pc)).setCell ⟨w.heap.size + 1 + 1, 1, none⟩ (.slice ro rl rc) := ⟨_, rfl⟩
      rw [← hX] at p4
      have hlt := HI.out.lt
      have hzz := ZW.out
      have hz4 := hg.size
      have HBW : Hid (w0.heap.size ≤ W1.heap.size) := by
        show _ ≤ _
        have := HK.out.size; have := HI.out.gr.size; omega
      have FIN : Hid (FoldI w X ge w0.heap.size (qsum (ps.take (k + 1)))) := by
        show FoldI w X ge w0.heap.size (qsum (ps.take (k + 1)))
        rw [HQS.out]
        refine ⟨⟨_, _, p4.two, h1.only p4.only (h3.offs (by omega) _), h2.only p4.only (h4.offs (by omega) _), h3.mono HBW.out, h4.mono HBW.out, h3.offs (by omega) _, h4.offs (by omega) _⟩, ⟨(p4.only.block _ ne2).trans R4.blk⟩, he.other p4.only ne.symm, ?_, by have := p4.only.size; omega⟩
        exact Gr.by (Gr.trans (Gr.trans HI.out.gr (KW1.out.gr ge)) hg) p4.only.gr (fun r hr => by injection hr with hr; omega)
      have HX := Lib.hid hX
      clear h1 h2 h3 h4 he hg T4 R4 p4 hX hlt hzz hz4 ne ne' ne2
      go_wp2_with fail
      rw [← HX.out]
      clear f0 c0 f1 c1
      go_roundw
      case rel => exact ⟨k + 1, by omega, vint (by omega), FIN.out⟩
      case measure => simp [intOf]; omega
    · have hkl' : k = ps.length := by have := HN.out.len; have := HL.out; omega
      obtain ⟨xo, xl, xc, rfl⟩ := s1.open3
      obtain ⟨yo, yl, yc, rfl⟩ := s2.open3
      have q0 := tw.c0; have q1 := tw.c1
      have p4 := Put.made res (.slice xo xl xc) (.slice yo yl yc)
      have f0 := res.free 0; have c0 := res.c0; have f1 := (res.set0 (.slice xo xl xc)).free 1; have c1 := (res.set0 (.slice xo xl xc)).c1
      obtain ⟨X, hX⟩ : ∃ X, X = (wr.setCell ⟨w.heap.size + 1, 0, none⟩ (.slice xo xl xc)).setCell ⟨w.heap.size + 1, 1, none⟩ (.slice yo yl yc) := ⟨_, rfl⟩
      rw [← hX] at p4
      have ne' : ge ≠ w.heap.size + 1 := by have := HGW.out; omega
      have e : ps.take k = ps := by rw [hkl']; exact List.take_length
      rw [e] at s1 s2 O1 O2
      have FIN : Hid (SumR ge w0.heap.size (qsum ps) w (.returned (.agg #[.slice xo xl xc, .slice yo yl yc])) X) := by
        refine ⟨⟨_, _, rfl, s1.only p4.only O1, s2.only p4.only O2, m1, m2⟩, ce.other p4.only ne', ?_⟩
        exact Gr.by gr p4.only.gr (fun r hr => by injection hr with hr; omega)
      have TW := Lib.hid p4.two
      have HX := Lib.hid hX
      clear p4 hX ne' e O1 O2 tw s1 s2 m1 m2 res ce gr lt
      go_wp2_with fail
      rw [← HX.out]
      clear f0 c0 f1 c1 q0 q1
      have c0 := TW.out.c0
      have c1 := TW.out.c1
      exact bodyPost_ret (by simp [results, Tryz.results29, go_sem, c0, c1]) rfl FIN.out
end Go.Proofs.YtdoponlhiidimaaGreatDoor
