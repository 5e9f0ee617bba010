/- The program's order of keys. Condition: none of the strings is too long for a string. -/
import Derived.Test.YtpgnckjgclbepaaDoorKyT
import Derived.Laws.CopyRow
namespace Go.Proofs.YtpgnckjgclbepaaDoor
namespace By
open Go.RowKit WireN LexN RevN KeyN
set_option linter.unusedVariables false
set_option linter.unusedSimpArgs false

/-- The order of strings as a number. -/
def cps (a b : List Nat) : Int := if lss a b = true then -1 else if lss b a = true then 1 else 0
theorem cmpB_map : ∀ {a b : List Nat}, (∀ x ∈ a, x < 256) → (∀ x ∈ b, x < 256) → Lib.compareBytes (a.map fun n => UInt8.ofNat n) (b.map fun n => UInt8.ofNat n) = cps a b
  | [], [], _, _ => rfl
  | [], y :: b, _, _ => rfl
  | x :: a, [], _, _ => rfl
  | x :: a, y :: b, ha, hb => by
    have hx : x < 256 := ha x List.mem_cons_self
    have hy : y < 256 := hb y List.mem_cons_self
    have ih := cmpB_map (a := a) (b := b) (fun z hz => ha z (List.mem_cons_of_mem _ hz)) (fun z hz => hb z (List.mem_cons_of_mem _ hz))
    have h1 : (UInt8.ofNat x < UInt8.ofNat y) ↔ x < y := by
      rw [UInt8.lt_iff_toNat_lt]
      simp; omega
    have h2 : (UInt8.ofNat y < UInt8.ofNat x) ↔ y < x := by
      rw [UInt8.lt_iff_toNat_lt]
      simp; omega
    simp only [List.map_cons, Lib.compareBytes, h1, h2, ih, cps, lss]
    by_cases a1 : x < y
    · simp [a1]
    · by_cases a2 : y < x
      · have : ¬ x = y := by omega
        have h3 : ¬ y = x := by omega
        simp [a1, a2, this, h3]
      · have : x = y := by omega
        subst this
        simp
theorem cmpB_st {a b : List Nat} (ha : Lt a) (hb : Lt b) : Lib.compareBytes (st a).data.toList (st b).data.toList = cps a b := by
  have hd : ∀ xs : List Nat, (st xs).data.toList = xs.map fun n => UInt8.ofNat n := fun xs => by simp [st]
  rw [hd, hd]
  exact cmpB_map (fun x hx => ha.mem hx) (fun x hx => hb.mem hx)
theorem cps_zero {a b : List Nat} : cps a b = 0 ↔ a = b := by
  unfold cps
  constructor
  · intro h
    by_cases h1 : lss a b = true
    · rw [if_pos h1] at h; omega
    · rw [if_neg h1] at h
      by_cases h2 : lss b a = true
      · rw [if_pos h2] at h; omega
      · refine Decidable.byContradiction fun e => h2 (lss_total (by simpa using h1) e)
  · rintro rfl
    simp [lss_self]
/-- The first number that is not 0. -/
def or3 (a b c : Int) : Int := if a ≠ 0 then a else if b ≠ 0 then b else c
theorem cpk_or (x y : Ky) : cpk x y = or3 (Lib.compareInt x.1 y.1) (cps x.2.1 y.2.1) (cps x.2.2 y.2.2) := by
  unfold cpk or3 Lib.compareInt
  by_cases h1 : x.1 < y.1
  · rw [if_pos ((lk_iff x y).2 (.inl h1)), if_pos h1]; rfl
  · by_cases h2 : y.1 < x.1
    · have e1 : ¬ lk x y = true := by
        rw [lk_iff]; rintro (h | ⟨h, _⟩) <;> omega
      rw [if_neg e1, if_pos ((lk_iff y x).2 (.inl h2)), if_neg h1, if_pos h2]; rfl
    · have he : x.1 = y.1 := by omega
      rw [if_neg h1, if_neg h2]
      have r1 : lk x y = (lss x.2.1 y.2.1 || (decide (x.2.1 = y.2.1) && lss x.2.2 y.2.2)) := by unfold lk; simp [he]
      have r2 : lk y x = (lss y.2.1 x.2.1 || (decide (y.2.1 = x.2.1) && lss y.2.2 x.2.2)) := by unfold lk; simp [he]
      rw [r1, r2]
      by_cases e : x.2.1 = y.2.1
      · have : cps x.2.1 y.2.1 = 0 := cps_zero.2 e
        rw [this, e]
        simp [lss_self, cps]
      · have hne : cps x.2.1 y.2.1 ≠ 0 := fun h => e (cps_zero.1 h)
        have R : (if (0 : Int) ≠ 0 then (0 : Int) else if cps x.2.1 y.2.1 ≠ 0 then cps x.2.1 y.2.1 else cps x.2.2 y.2.2) = cps x.2.1 y.2.1 := by rw [if_neg (by simp), if_pos hne]
        rw [R]
        have e' : ¬ y.2.1 = x.2.1 := fun h => e h.symm
        simp [e, e', cps]
set_option maxRecDepth 100000 in
set_option maxHeartbeats 1000000 in
theorem Or_k {g : Nat} {a b c : Int} {w : World} (hb : Blk w g 3 #[.int .i64 a, .int .i64 b, .int .i64 c]) :
    Calls Tryd.prog 49 #[.slice (some ⟨g, 0, none⟩) 3 3] w fun e w' => e = .returned (.int .i64 (or3 a b c)) ∧ w = w' := by
  have c0 := hb.cell 0 rfl; have c1 := hb.cell 1 rfl; have c2 := hb.cell 2 rfl
  have HO : Hid (or3 a b c = if a ≠ 0 then a else if b ≠ 0 then b else c) := Lib.hid rfl
  obtain ⟨r, hr⟩ : ∃ r, r = or3 a b c := ⟨_, rfl⟩
  rw [← hr] at HO ⊢
  clear hb hr
  have HR : Hid (∀ v : Int, r = v → Ending.returned (.int .i64 v) = .returned (.int .i64 r)) := Lib.hid (fun v h => by rw [h])
  by_cases ha : a = 0
  · subst ha
    by_cases hb0 : b = 0
    · subst hb0
      have HV : Hid (r = c) := Lib.hid (by rw [HO.out]; simp)
      by_cases hc0 : c = 0
      · subst hc0
        go_enter Tryd.func49, Tryd.ntmps49
        go_wp2_with fail
        refine wp_loop_rounds 4 ?_
        rw [rounds_succ]
        go_wp2_with fail
        rw [rounds_succ]
        go_wp2_with fail
        rw [rounds_succ]
        go_wp2_with fail
        rw [rounds_succ]
        go_wp2_with fail
        go_ret
        exact ⟨HR.out _ HV.out, rfl⟩
      · have h1 : (c == 0) = false := beq_eq_false_iff_ne.2 hc0
        have h2 : (c != 0) = true := by simp [bne, h1]
        clear hc0
        go_enter Tryd.func49, Tryd.ntmps49
        go_wp2_with fail
        refine wp_loop_rounds 3 ?_
        rw [rounds_succ]
        go_wp2_with fail
        rw [rounds_succ]
        go_wp2_with fail
        rw [rounds_succ]
        go_wp2_with fail
        go_ret
        exact ⟨HR.out _ HV.out, rfl⟩
    · have HV : Hid (r = b) := Lib.hid (by rw [HO.out]; simp [hb0])
      have h1 : (b == 0) = false := beq_eq_false_iff_ne.2 hb0
      have h2 : (b != 0) = true := by simp [bne, h1]
      clear hb0
      go_enter Tryd.func49, Tryd.ntmps49
      go_wp2_with fail
      refine wp_loop_rounds 2 ?_
      rw [rounds_succ]
      go_wp2_with fail
      rw [rounds_succ]
      go_wp2_with fail
      go_ret
      exact ⟨HR.out _ HV.out, rfl⟩
  · have HV : Hid (r = a) := Lib.hid (by rw [HO.out]; simp [ha])
    have h1 : (a == 0) = false := beq_eq_false_iff_ne.2 ha
    have h2 : (a != 0) = true := by simp [bne, h1]
    clear ha
    go_enter Tryd.func49, Tryd.ntmps49
    go_wp2_with fail
    refine wp_loop_rounds 1 ?_
    rw [rounds_succ]
    go_wp2_with fail
    go_ret
    exact ⟨HR.out _ HV.out, rfl⟩
set_option maxRecDepth 100000 in
set_option maxHeartbeats 4000000 in
theorem Compare_any : CmpAns := by
  intro x y hx hy w
  rw [cpk_or]
  have CI := Lib.hid (fun W => Tryd.cmp_Compare_int x.1 y.1 W)
  have CA := Lib.hid (fun W => Tryd.strings_Compare (st x.2.1) (st y.2.1) W)
  have CB := Lib.hid (fun W => Tryd.strings_Compare (st x.2.2) (st y.2.2) W)
  simp only [cmpB_st hx.1.1 hy.1.1] at CA
  simp only [cmpB_st hx.1.2 hy.1.2] at CB
  obtain ⟨x1, x2, x3⟩ := x
  obtain ⟨y1, y2, y3⟩ := y
  simp only at CI CA CB ⊢
  obtain ⟨a, ha⟩ : ∃ a, a = Lib.compareInt x1 y1 := ⟨_, rfl⟩
  obtain ⟨b, hb⟩ : ∃ b, b = cps x2 y2 := ⟨_, rfl⟩
  obtain ⟨c, hc⟩ : ∃ c, c = cps x3 y3 := ⟨_, rfl⟩
  rw [← ha] at CI ⊢
  rw [← hb] at CA ⊢
  rw [← hc] at CB ⊢
  obtain ⟨S2, hS2⟩ : ∃ S, S = st x2 := ⟨_, rfl⟩
  obtain ⟨S3, hS3⟩ : ∃ S, S = st x3 := ⟨_, rfl⟩
  obtain ⟨T2, hT2⟩ : ∃ S, S = st y2 := ⟨_, rfl⟩
  obtain ⟨T3, hT3⟩ : ∃ S, S = st y3 := ⟨_, rfl⟩
  rw [← hS2, ← hS3, ← hT2, ← hT3]
  rw [← hS2, ← hT2] at CA
  rw [← hS3, ← hT3] at CB
  obtain ⟨WA, hWA⟩ : ∃ W, W = (w.alloc (.cells #[.int .i64 x1, .string S2, .string S3] 29)).alloc (.cells #[.int .i64 y1, .string T2, .string T3] 29) := ⟨_, rfl⟩
  have HWA := Lib.hid hWA
  have kA : Kp w WA := by rw [hWA]; exact Kp.alloc (kp_alloc _ _) _
  have b1 : Blk WA w.heap.size 29 #[.int .i64 x1, .string S2, .string S3] := by rw [hWA]; exact (Blk.new _ _ _).keep (kp_alloc _ _)
  have b2 : Blk WA (w.heap.size + 1) 29 #[.int .i64 y1, .string T2, .string T3] := by
    have := Blk.new (w.alloc (.cells #[.int .i64 x1, .string S2, .string S3] 29)) 29 #[.int .i64 y1, .string T2, .string T3]
    rw [hWA]
    simpa using this
  have FACT : Hid (∀ W, Kp WA W → (W.cell? ⟨w.heap.size, 0, none⟩ = some (.int .i64 x1) ∧ W.cell? ⟨w.heap.size, 1, none⟩ = some (.string S2) ∧ W.cell? ⟨w.heap.size, 2, none⟩ = some (.string S3)) ∧ (W.cell? ⟨w.heap.size + 1, 0, none⟩ = some (.int .i64 y1) ∧ W.cell? ⟨w.heap.size + 1, 1, none⟩ = some (.string T2) ∧ W.cell? ⟨w.heap.size + 1, 2, none⟩ = some (.string T3))) := Lib.hid (fun W hk =>
    ⟨⟨(b1.keep hk).cell 0 rfl, (b1.keep hk).cell 1 rfl, (b1.keep hk).cell 2 rfl⟩, (b2.keep hk).cell 0 rfl, (b2.keep hk).cell 1 rfl, (b2.keep hk).cell 2 rfl⟩)
  have HKA := Lib.hid kA
  clear hx hy ha hb hc hS2 hS3 hT2 hT3 hWA kA b1 b2
  go_enter Tryd.func36, Tryd.ntmps36
  go_wp2_with fail
  rw [← HWA.out]
  go_region_held3 (fun w' => (w'.cell? ⟨w.heap.size, 0, none⟩ = some (.int .i64 x1) ∧ w'.cell? ⟨w.heap.size, 1, none⟩ = some (.string S2) ∧ w'.cell? ⟨w.heap.size, 2, none⟩ = some (.string S3)) ∧ (w'.cell? ⟨w.heap.size + 1, 0, none⟩ = some (.int .i64 y1) ∧ w'.cell? ⟨w.heap.size + 1, 1, none⟩ = some (.string T2) ∧ w'.cell? ⟨w.heap.size + 1, 2, none⟩ = some (.string T3)))
    (first
      | exact FACT.out _ (Kp.refl _)
      | exact FACT.out _ (kp_drew _)
      | exact FACT.out _ (Kp.trans (kp_drew _) (kp_alloc _ _))
      | exact FACT.out _ (Kp.trans (kp_alloc _ _) (kp_drew _))
      | fail "no keep")
    (first
      | (go_at_call 50; refine (CI.out _).mono ?_; rintro e w2 ⟨rfl, rfl⟩)
      | (go_at_call_of 51 (Value.string S2); refine (CA.out _).mono ?_; rintro e w2 ⟨rfl, rfl⟩)
      | (go_at_call_of 51 (Value.string S3); refine (CB.out _).mono ?_; rintro e w2 ⟨rfl, rfl⟩)
      | (go_at_call 49; refine (Or_k (by first | exact Blk.new _ _ _ | exact (Blk.new _ _ _).keep (kp_drew _))).mono ?_; rintro e w2 ⟨rfl, rfl⟩)
      | fail "no arm")
  all_goals
    go_wp2_with fail
    go_ret
    exact ⟨rfl, Kp.trans HKA.out (by first | exact Kp.trans (kp_alloc _ _) (kp_drew _) | exact Kp.trans (kp_drew _) (kp_alloc _ _))⟩
end By
end Go.Proofs.YtpgnckjgclbepaaDoor
