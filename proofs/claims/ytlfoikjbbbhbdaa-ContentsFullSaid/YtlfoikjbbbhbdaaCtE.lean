/- The reference's Find and Get. Condition: at most a million texts. -/
import Derived.Test.YtlfoikjbbbhbdaaCtD
namespace Go.Proofs.Ytlfoikjbbbhbdaa
namespace By
open Go.RowKit WireN CtN
set_option linter.unusedVariables false
set_option linter.unusedSimpArgs false

/-- What Find answers. -/
def fdB (x : Tx) (ts : List Tx) : Bool := decide (err ts = 0 ∧ x ∈ ts)
def fdN (x : Tx) (ts : List Tx) : Nat := if err ts = 0 ∧ x ∈ ts then fnd x ts else 0
/-- What Get answers. -/
def gtE (n : Int) (ts : List Tx) : Nat := if err ts ≠ 0 then err ts else if 0 ≤ n ∧ n < ts.length then 0 else 20
def gtT (n : Int) (ts : List Tx) : Tx := if gtE n ts = 0 then ts[n.toNat]?.getD [] else []
theorem fndI_ge {x : Tx} {ts : List Tx} (h : x ∈ ts) : fndI x ts = (fnd x ts : Nat) := if_pos h
theorem fndI_no {x : Tx} {ts : List Tx} (h : x ∉ ts) : fndI x ts = -1 := if_neg h
set_option maxRecDepth 100000 in
set_option maxHeartbeats 1000000 in
theorem rFindT_any {w : World} {v : Value} {ts : List Tx} (hs : Tw w v ts) (hn2 : ts.length ≤ 140737488355328) {x : Tx} (hx : Lt x) :
    Calls Try.prog 12 #[.agg #[v], .string (st x)] w fun e w' => e = .returned (.tuple #[.int .i64 (fdN x ts : Nat), .bool (fdB x ts)]) ∧ Kp w w' := by
  obtain ⟨W, hW⟩ : ∃ W, W = w.alloc (.cells #[v] 25) := ⟨_, rfl⟩
  have hk0 : Kp w W := by rw [hW]; exact kp_alloc _ _
  have hb0 : Blk W w.heap.size 25 #[v] := by rw [hW]; exact Blk.new _ _ _
  have HA := Lib.hid (rfind_any (hs.keep hk0) hn2 hx)
  have HB : Hid (∀ w1 : World, Kp W w1 → Calls Try.prog 10 #[.agg #[v]] w1 fun e w' => e = .returned (.int .i64 (err ts : Nat)) ∧ Kp w1 w') := Lib.hid (fun w1 hk => rCheckT_any (hs.keep (hk0.trans hk)))
  have HW := Lib.hid hW; have HK := Lib.hid hk0; have HBL := Lib.hid hb0
  have c0 := hb0.cell 0 rfl
  obtain ⟨N, hN⟩ : ∃ N, N = fdN x ts := ⟨_, rfl⟩
  obtain ⟨B, hB⟩ : ∃ B, B = fdB x ts := ⟨_, rfl⟩
  rw [← hN, ← hB]
  have HN := Lib.hid hN; have HBB := Lib.hid hB
  obtain ⟨E, hE⟩ : ∃ E, E = err ts := ⟨_, rfl⟩
  have HE := Lib.hid hE
  obtain ⟨ao, cap, rfl, -, -, -⟩ := hs.open3
  rw [← hE] at HB
  clear hs hk0 hb0 hW hN hB hE
  by_cases hm : x ∈ ts
  · rw [fndI_ge hm] at HA
    have hF : (0 : Int) ≤ ((fnd x ts : Nat) : Int) := by omega
    obtain ⟨F, hFF⟩ : ∃ F, F = fnd x ts := ⟨_, rfl⟩
    rw [← hFF] at HA hF
    by_cases he : E = 0
    · have F1 : Hid (F = N) := Lib.hid (by rw [HN.out, fdN, if_pos ⟨HE.out ▸ he, hm⟩, hFF])
      have F2 : Hid (true = B) := Lib.hid (by rw [HBB.out, fdB]; exact (decide_eq_true ⟨HE.out ▸ he, hm⟩).symm)
      have q : ((E : Int) == 0) = true := beq_iff_eq.2 (by omega)
      clear hm he hFF
      go_enter Try.func12, Try.ntmps12
      go_wp2_with fail
      rw [← HW.out]
      refine HA.out.mono ?_
      rintro e w1 ⟨rfl, hk1⟩
      have c1 := (HBL.out.keep hk1).cell 0 rfl
      have HC := Lib.hid (HB.out _ hk1)
      have HK1 := Lib.hid hk1
      clear hk1
      go_wp2_with fail
      refine HC.out.mono ?_
      rintro e w2 ⟨rfl, hk2⟩
      have HK2 := Lib.hid hk2
      clear hk2
      go_wp2_with fail
      go_ret2
      exact ⟨by rw [← F1.out, ← F2.out]; rfl, (HK.out.trans HK1.out).trans HK2.out⟩
    · have F1 : Hid (0 = N) := Lib.hid (by rw [HN.out, fdN, if_neg (fun h => he (HE.out.trans h.1))])
      have F2 : Hid (false = B) := Lib.hid (by rw [HBB.out, fdB]; exact (decide_eq_false (fun h => he (HE.out.trans h.1))).symm)
      have q : ((E : Int) == 0) = false := beq_eq_false_iff_ne.2 (by omega)
      clear hm he hFF
      go_enter Try.func12, Try.ntmps12
      go_wp2_with fail
      rw [← HW.out]
      refine HA.out.mono ?_
      rintro e w1 ⟨rfl, hk1⟩
      have c1 := (HBL.out.keep hk1).cell 0 rfl
      have HC := Lib.hid (HB.out _ hk1)
      have HK1 := Lib.hid hk1
      clear hk1
      go_wp2_with fail
      refine HC.out.mono ?_
      rintro e w2 ⟨rfl, hk2⟩
      have HK2 := Lib.hid hk2
      clear hk2
      go_wp2_with fail
      go_ret2
      exact ⟨by rw [← F1.out, ← F2.out]; rfl, (HK.out.trans HK1.out).trans HK2.out⟩
  · rw [fndI_no hm] at HA
    have F1 : Hid (0 = N) := Lib.hid (by rw [HN.out, fdN, if_neg (fun h => hm h.2)])
    have F2 : Hid (false = B) := Lib.hid (by rw [HBB.out, fdB]; exact (decide_eq_false (fun h => hm h.2)).symm)
    obtain ⟨b, hb⟩ : ∃ b, b = ((E : Int) == 0) := ⟨_, rfl⟩
    have q : ((E : Int) == 0) = b := hb.symm
    clear hm hb
    cases b <;>
    · go_enter Try.func12, Try.ntmps12
      go_wp2_with fail
      rw [← HW.out]
      refine HA.out.mono ?_
      rintro e w1 ⟨rfl, hk1⟩
      have c1 := (HBL.out.keep hk1).cell 0 rfl
      have HC := Lib.hid (HB.out _ hk1)
      have HK1 := Lib.hid hk1
      clear hk1
      go_wp2_with fail
      refine HC.out.mono ?_
      rintro e w2 ⟨rfl, hk2⟩
      have HK2 := Lib.hid hk2
      clear hk2
      go_wp2_with fail
      go_ret2
      exact ⟨by rw [← F1.out, ← F2.out]; rfl, (HK.out.trans HK1.out).trans HK2.out⟩
theorem gtE_bad {n : Int} {ts : List Tx} (h : err ts ≠ 0) : gtE n ts = err ts := if_pos h
theorem gtE_out {n : Int} {ts : List Tx} (h : err ts = 0) (hn : ¬ (0 ≤ n ∧ n < ts.length)) : gtE n ts = 20 := by rw [gtE, if_neg (by simp [h]), if_neg hn]
theorem gtE_in {n : Int} {ts : List Tx} (h : err ts = 0) (hn : 0 ≤ n ∧ n < ts.length) : gtE n ts = 0 := by rw [gtE, if_neg (by simp [h]), if_pos hn]
theorem gtT_no {n : Int} {ts : List Tx} (h : gtE n ts ≠ 0) : gtT n ts = [] := if_neg h
theorem gtT_ok {n : Int} {ts : List Tx} (h : gtE n ts = 0) : gtT n ts = ts[n.toNat]?.getD [] := if_pos h
theorem ret2_ss {S T : ByteArray} {a b : Nat} (h1 : S = T) (h2 : a = b) : Ending.returned (.tuple #[.string S, .int .i64 (a : Nat)]) = Ending.returned (.tuple #[.string T, .int .i64 (b : Nat)]) := by rw [h1, h2]
set_option maxRecDepth 100000 in
set_option maxHeartbeats 1000000 in
theorem rGetT_any {w : World} {v : Value} {ts : List Tx} (hs : Tw w v ts) (n : Int) :
    Calls Try.prog 17 #[.agg #[v], .int .i64 n] w fun e w' => e = .returned (.tuple #[.string (st (gtT n ts)), .int .i64 (gtE n ts : Nat)]) ∧ Kp w w' := by
  obtain ⟨W, hW⟩ : ∃ W, W = w.alloc (.cells #[v] 25) := ⟨_, rfl⟩
  have hk0 : Kp w W := by rw [hW]; exact kp_alloc _ _
  have hb0 : Blk W w.heap.size 25 #[v] := by rw [hW]; exact Blk.new _ _ _
  have HB := Lib.hid (rCheckT_any (hs.keep hk0))
  have HW := Lib.hid hW; have HK := Lib.hid hk0; have HBL := Lib.hid hb0; have HS := Lib.hid hs
  have c0 := hb0.cell 0 rfl
  obtain ⟨N, hN⟩ : ∃ N, N = gtE n ts := ⟨_, rfl⟩
  obtain ⟨B, hB⟩ : ∃ B, B = st (gtT n ts) := ⟨_, rfl⟩
  rw [← hN, ← hB]
  have HN := Lib.hid hN; have HBB := Lib.hid hB
  obtain ⟨E, hE⟩ : ∃ E, E = err ts := ⟨_, rfl⟩
  have HE := Lib.hid hE
  obtain ⟨ao, cap, rfl, hcap, -, -⟩ := hs.open3
  obtain ⟨m, hm⟩ : ∃ m, m = ts.length := ⟨_, rfl⟩
  rw [← hm] at HW HBL HS HB c0 hcap ⊢
  have HM := Lib.hid hm
  have i1 : (m : Int) ≤ (cap : Int) := by omega
  rw [← hE] at HB
  clear hs hk0 hb0 hW hN hB hE hcap hm
  by_cases he : E = 0
  · have q : ((E : Int) != 0) = false := by simp [he]
    by_cases hn : 0 ≤ n ∧ n < (m : Int)
    · have F1 : Hid (0 = N) := Lib.hid (by rw [HN.out]; exact (gtE_in (HE.out ▸ he) (by rw [← HM.out]; exact hn)).symm)
      obtain ⟨h1, h2⟩ := hn
      obtain ⟨k, rfl⟩ : ∃ k : Nat, n = (k : Int) := ⟨n.toNat, by omega⟩
      obtain ⟨x, hx⟩ : ∃ x, ts[k]? = some x := ⟨_, List.getElem?_eq_getElem (by have := HM.out; omega)⟩
      have F2 : Hid (st x = B) := Lib.hid (by rw [HBB.out, gtT_ok (by rw [← HN.out, F1.out]), Int.toNat_natCast, hx]; rfl)
      obtain ⟨b, off, rfl, hcell⟩ := HS.out.cell (by omega)
      have HX := Lib.hid (hcell k x hx)
      clear hcell hx h1 he
      go_enter Try.func17, Try.ntmps17
      go_wp2_with fail
      rw [← HW.out]
      refine HB.out.mono ?_
      rintro e w1 ⟨rfl, hk1⟩
      have c1 := (HBL.out.keep hk1).cell 0 rfl
      have c2 := cell_kept HX.out (HK.out.trans hk1)
      have HK1 := Lib.hid hk1
      clear hk1
      go_wp2_with fail
      go_ret2
      exact ⟨ret2_ss F2.out F1.out, HK.out.trans HK1.out⟩
    · have F1 : Hid (20 = N) := Lib.hid (by rw [HN.out]; exact (gtE_out (HE.out ▸ he) (by rw [← HM.out]; exact hn)).symm)
      have F2 : Hid (⟨#[]⟩ = B) := Lib.hid (by rw [HBB.out, gtT_no (by rw [← HN.out, ← F1.out]; decide)]; rfl)
      by_cases h1 : n < 0
      · clear hn he
        go_enter Try.func17, Try.ntmps17
        go_wp2_with fail
        rw [← HW.out]
        refine HB.out.mono ?_
        rintro e w1 ⟨rfl, hk1⟩
        have c1 := (HBL.out.keep hk1).cell 0 rfl
        have HK1 := Lib.hid hk1
        clear hk1
        go_wp2_with fail
        go_ret2
        exact ⟨ret2_ss F2.out F1.out, HK.out.trans HK1.out⟩
      · have h2 : (m : Int) ≤ n := by omega
        have h0 : (0 : Int) ≤ n := by omega
        clear hn he h1
        go_enter Try.func17, Try.ntmps17
        go_wp2_with fail
        rw [← HW.out]
        refine HB.out.mono ?_
        rintro e w1 ⟨rfl, hk1⟩
        have c1 := (HBL.out.keep hk1).cell 0 rfl
        have HK1 := Lib.hid hk1
        clear hk1
        go_wp2_with fail
        go_ret2
        exact ⟨ret2_ss F2.out F1.out, HK.out.trans HK1.out⟩
  · have q : ((E : Int) != 0) = true := by simp; omega
    have F1 : Hid (E = N) := Lib.hid (by rw [HN.out, HE.out]; exact (gtE_bad (HE.out ▸ he)).symm)
    have F2 : Hid (⟨#[]⟩ = B) := Lib.hid (by rw [HBB.out, gtT_no (by rw [← HN.out, ← F1.out]; exact he)]; rfl)
    clear he
    go_enter Try.func17, Try.ntmps17
    go_wp2_with fail
    rw [← HW.out]
    refine HB.out.mono ?_
    rintro e w1 ⟨rfl, hk1⟩
    have c1 := (HBL.out.keep hk1).cell 0 rfl
    have HK1 := Lib.hid hk1
    clear hk1
    go_wp2_with fail
    go_ret2
    exact ⟨ret2_ss F2.out F1.out, HK.out.trans HK1.out⟩
end By
end Go.Proofs.Ytlfoikjbbbhbdaa
