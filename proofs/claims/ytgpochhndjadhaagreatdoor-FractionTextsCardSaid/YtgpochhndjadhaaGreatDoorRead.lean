/- Contracts of the functions that only read numbers: of the program and of the reference. Conditions: the slices hold the digits that are named, each below 2^32. -/
import Derived.Test.YtgpochhndjadhaaGreatDoorBase
import Derived.Test.YtgpochhndjadhaaGreatDoorShelf
namespace Go.Proofs.YtgpochhndjadhaaGreatDoor
open Go.RowKit LimbN

theorem wf_nil : wf [] = true := rfl
theorem wf_pos {xs : List Nat} (h : 0 < xs.length) : wf xs = (decide (xs.length ≤ 128) && !(xs[xs.length - 1]?.getD 0 == 0)) := by
  unfold wf; rw [decide_eq_false (by omega : ¬ xs.length = 0)]; rfl

-- natural.Check
set_option maxHeartbeats 400000 in
theorem check_nil (ao : Option Addr) (cap : Nat) (w : World) :
    Calls Tryz.prog 83 #[.slice ao 0 cap] w fun e w' => e = .returned (.bool true) ∧ w = w' := by
  go_enter Tryz.func83, Tryz.ntmps83
  go_wp2
  go_ret
  exact ⟨rfl, rfl⟩
set_option maxHeartbeats 400000 in
theorem check_cons (b off len cap x : Nat) (w : World) (hl : 0 < len) (hm : len ≤ maxLen) (hc : len ≤ 128 → w.cell? ⟨b, off + (len - 1), none⟩ = some (.int .u32 x)) :
    Calls Tryz.prog 83 #[.slice (some ⟨b, off, none⟩) len cap] w fun e w' => e = .returned (.bool (decide (len ≤ 128) && !(x == 0))) ∧ w = w' := by
  unfold maxLen at hm
  by_cases h : len ≤ 128
  · have hc := hc h
    have e : (len : Int) ≤ 128 := by omega
    by_cases hx : x = 0
    · subst hx
      go_enter Tryz.func83, Tryz.ntmps83
      go_wp2
      go_ret
      exact ⟨by simp, rfl⟩
    · go_enter Tryz.func83, Tryz.ntmps83
      go_wp2
      go_ret
      exact ⟨ret_bool (by rw [decide_eq_true h, beq_eq_false_iff_ne.2 hx]; simp [bne_iff_ne]; omega), rfl⟩
  · go_enter Tryz.func83, Tryz.ntmps83
    go_wp2
    go_ret
    exact ⟨by simp, rfl⟩
theorem check_any {xs : List Nat} {v : Value} {w : World} (hs : Sl w v xs) :
    Calls Tryz.prog 83 #[v] w fun e w' => e = .returned (.bool (wf xs)) ∧ w = w' := by
  obtain ⟨⟨ao, cap, rfl, hcap, hm, ha, _⟩, _, _⟩ := hs
  cases hx : xs with
  | nil => exact check_nil ao cap w
  | cons y ys =>
    rw [← hx]
    have hl : 0 < xs.length := by rw [hx]; simp
    obtain ⟨b, off, rfl, hc⟩ := ha.cells hl
    refine (check_cons b off xs.length cap (xs[xs.length - 1]?.getD 0) w hl (by omega) (fun _ => hc _ (by omega))).mono fun e w' h => ⟨?_, h.2⟩
    rw [h.1, wf_pos hl]
-- the reference's Check
set_option maxHeartbeats 400000 in
theorem rcheck_nil (ao : Option Addr) (cap : Nat) (w : World) :
    Calls Tryz.prog 82 #[.slice ao 0 cap] w fun e w' => e = .returned (.bool true) ∧ w = w' := by
  go_enter Tryz.func82, Tryz.ntmps82
  go_wp2
  go_ret
  exact ⟨rfl, rfl⟩
set_option maxHeartbeats 400000 in
theorem rcheck_cons (b off len cap x : Nat) (w : World) (hl : 0 < len) (hm : len ≤ maxLen) (hc : len ≤ 128 → w.cell? ⟨b, off + (len - 1), none⟩ = some (.int .u32 x)) :
    Calls Tryz.prog 82 #[.slice (some ⟨b, off, none⟩) len cap] w fun e w' => e = .returned (.bool (decide (len ≤ 128) && !(x == 0))) ∧ w = w' := by
  unfold maxLen at hm
  have h0 : ((len : Int) == 0) = false := beq_eq_false_iff_ne.2 (by omega)
  by_cases h : len ≤ 128
  · have hc := hc h
    have e : (len : Int) ≤ 128 := by omega
    by_cases hx : x = 0
    · subst hx
      go_enter Tryz.func82, Tryz.ntmps82
      go_wp2
      go_ret
      exact ⟨by simp, rfl⟩
    · go_enter Tryz.func82, Tryz.ntmps82
      go_wp2
      go_ret
      exact ⟨ret_bool (by rw [decide_eq_true h, beq_eq_false_iff_ne.2 hx]; simp [bne_iff_ne]; omega), rfl⟩
  · go_enter Tryz.func82, Tryz.ntmps82
    go_wp2
    go_ret
    exact ⟨by simp, rfl⟩
theorem rcheck_any {xs : List Nat} {v : Value} {w : World} (hs : Sl w v xs) :
    Calls Tryz.prog 82 #[v] w fun e w' => e = .returned (.bool (wf xs)) ∧ w = w' := by
  obtain ⟨⟨ao, cap, rfl, hcap, hm, ha, _⟩, _, _⟩ := hs
  cases hx : xs with
  | nil => exact rcheck_nil ao cap w
  | cons y ys =>
    rw [← hx]
    have hl : 0 < xs.length := by rw [hx]; simp
    obtain ⟨b, off, rfl, hc⟩ := ha.cells hl
    refine (rcheck_cons b off xs.length cap (xs[xs.length - 1]?.getD 0) w hl (by omega) (fun _ => hc _ (by omega))).mono fun e w' h => ⟨?_, h.2⟩
    rw [h.1, wf_pos hl]

/-- The order of two lists of digits: the longer one is greater. -/
def cmpL (xs ys : List Nat) : Int := if xs.length < ys.length then -1 else if ys.length < xs.length then 1 else if val xs < val ys then -1 else if val ys < val xs then 1 else 0
theorem cmp_len {xs ys : List Nat} (h : xs.length ≠ ys.length) : cmpL xs ys = if xs.length < ys.length then -1 else 1 := by
  unfold cmpL
  by_cases h1 : xs.length < ys.length
  · rw [if_pos h1, if_pos h1]
  · rw [if_neg h1, if_neg h1, if_pos (by omega)]
/-- From k on the digits are equal. -/
def EqFrom (k : Nat) (xs ys : List Nat) : Prop := ∀ j : Nat, k ≤ j → xs[j]?.getD 0 = ys[j]?.getD 0
theorem EqFrom.val {k : Nat} {xs ys : List Nat} (h : EqFrom k xs ys) (hl : xs.length = ys.length) : (k = 0 → val xs = val ys) := by
  intro hk
  subst hk
  have : xs = ys := by
    apply List.ext_getElem hl
    intro i h1 h2
    have := h i (Nat.zero_le _)
    simpa [List.getElem?_eq_getElem h1, List.getElem?_eq_getElem h2] using this
  rw [this]
theorem val_lt_of : ∀ (xs ys : List Nat) (k : Nat), xs.length = ys.length → Lt xs → Lt ys → EqFrom (k + 1) xs ys → xs[k]?.getD 0 < ys[k]?.getD 0 → val xs < val ys := by
  intro xs
  induction xs with
  | nil => intro ys k hl hx hy he h
           cases ys with
           | nil => simp at h
           | cons y ys => simp at hl
  | cons x xs ih =>
    intro ys k hl hx hy he h
    cases ys with
    | nil => simp at hl
    | cons y ys =>
      simp only [List.length_cons, Nat.add_right_cancel_iff] at hl
      have h1 := hx.head
      have h2 := hy.head
      cases k with
      | zero =>
        have e : val xs = val ys := EqFrom.val (k := 0) (fun j _ => by have := he (j + 1) (by omega); simpa using this) hl rfl
        simp only [LimbN.val]
        simp at h
        omega
      | succ k =>
        have := ih ys k hl hx.tail hy.tail (fun j hj => by have := he (j + 1) (by omega); simpa using this) (by simpa using h)
        simp only [LimbN.val]
        omega
theorem cmp_lt {xs ys : List Nat} (m l : Nat) (hx : xs.length = l) (hy : ys.length = l) (hlx : Lt xs) (hly : Lt ys) (he : EqFrom (m + 1) xs ys) (h : xs[m]?.getD 0 < ys[m]?.getD 0) : cmpL xs ys = -1 := by
  have := val_lt_of xs ys m (by rw [hx, hy]) hlx hly he h
  unfold cmpL
  rw [hx, hy, if_neg (by omega), if_neg (by omega), if_pos this]
theorem cmp_gt {xs ys : List Nat} (m l : Nat) (hx : xs.length = l) (hy : ys.length = l) (hlx : Lt xs) (hly : Lt ys) (he : EqFrom (m + 1) xs ys) (h : ys[m]?.getD 0 < xs[m]?.getD 0) : cmpL xs ys = 1 := by
  have := val_lt_of ys xs m (by rw [hx, hy]) hly hlx (fun j hj => (he j hj).symm) h
  unfold cmpL
  rw [hx, hy, if_neg (by omega), if_neg (by omega), if_neg (by omega), if_pos this]
theorem cmp_eq {xs ys : List Nat} (l : Nat) (hx : xs.length = l) (hy : ys.length = l) (he : EqFrom 0 xs ys) : cmpL xs ys = 0 := by
  have := EqFrom.val he (by rw [hx, hy]) rfl
  unfold cmpL
  rw [hx, hy, if_neg (by omega), if_neg (by omega), if_neg (by omega), if_neg (by omega)]
/-- Of canonical lists it is the order of the values. -/
theorem cmp_val (m n : Nat) : cmpL (limbs m) (limbs n) = if m < n then -1 else if n < m then 1 else 0 := by
  have key : ∀ a b : Nat, (limbs a).length < (limbs b).length → a < b := by
    intro a b h
    rcases Nat.lt_or_ge a b with h1 | h1
    · exact h1
    · have h2 : (limbs a).length ≤ (limbs a).length := Nat.le_refl _
      rw [limbs_len_le] at h2
      have h3 : (limbs b).length ≤ (limbs a).length := limbs_len_le.2 (by omega)
      omega
  unfold cmpL
  rw [val_limbs, val_limbs]
  by_cases h1 : (limbs m).length < (limbs n).length
  · rw [if_pos h1, if_pos (key _ _ h1)]
  · rw [if_neg h1]
    by_cases h2 : (limbs n).length < (limbs m).length
    · have := key _ _ h2
      rw [if_pos h2, if_neg (by omega), if_pos this]
    · rw [if_neg h2]

-- natural.compare
set_option maxHeartbeats 400000 in
theorem compare_len (ao bo : Option Addr) (l m ca cb : Nat) (w : World) (hne : l ≠ m) (_hl : l ≤ maxLen) (_hm : m ≤ maxLen) :
    Calls Tryz.prog 119 #[.slice ao l ca, .slice bo m cb] w fun e w' => e = .returned (.int .i64 (if l < m then -1 else 1)) ∧ w = w' := by
  unfold maxLen at _hl _hm
  by_cases h : l < m
  · go_enter Tryz.func119, Tryz.ntmps119
    go_wp2
    go_ret
    exact ⟨by simp, rfl⟩
  · go_enter Tryz.func119, Tryz.ntmps119
    go_wp2
    go_ret
    exact ⟨by simp, rfl⟩
set_option maxHeartbeats 400000 in
theorem compare_zero (ao bo : Option Addr) (ca cb : Nat) (w : World) :
    Calls Tryz.prog 119 #[.slice ao 0 ca, .slice bo 0 cb] w fun e w' => e = .returned (.int .i64 0) ∧ w = w' := by
  go_enter Tryz.func119, Tryz.ntmps119
  go_wp2
  refine wp_loop_rounds 1 ?_
  rw [rounds_succ]
  go_wp2
  go_ret
  exact ⟨rfl, rfl⟩
set_option maxHeartbeats 800000 in
theorem compare_same (b off b' off' l ca cb : Nat) (xs ys : List Nat) (w : World) (hxl : xs.length = l) (hyl : ys.length = l) (hl : l ≤ maxLen) (hx : Lt xs) (hy : Lt ys)
    (hcx : ∀ i : Nat, i < l → w.cell? ⟨b, off + i, none⟩ = some (.int .u32 (xs[i]?.getD 0 : Nat))) (hcy : ∀ i : Nat, i < l → w.cell? ⟨b', off' + i, none⟩ = some (.int .u32 (ys[i]?.getD 0 : Nat))) :
    Calls Tryz.prog 119 #[.slice (some ⟨b, off, none⟩) l ca, .slice (some ⟨b', off', none⟩) l cb] w fun e w' => e = .returned (.int .i64 (cmpL xs ys)) ∧ Drawn w w' := by
  unfold maxLen at hl
  have HX := Lib.hid hxl; have HY := Lib.hid hyl; have HCX := Lib.hid hcx; have HCY := Lib.hid hcy; have HLX := Lib.hid hx; have HLY := Lib.hid hy
  clear hxl hyl hcx hcy hx hy
  go_enter Tryz.func119, Tryz.ntmps119
  go_wp2
  go_loopw [5] (fun i wr => ∃ j : Int, -1 ≤ j ∧ j < l ∧ i = .int .i64 j ∧ EqFrom (j + 1).toNat xs ys ∧ Drawn w wr) (fun i _ => (intOf i + 1).toNat)
  case atStart => exact ⟨_, by omega, by omega, rfl, fun j hj => by have := HX.out; have := HY.out; rw [List.getElem?_eq_none (by omega), List.getElem?_eq_none (by omega)], 0, rfl⟩
  case round =>
    obtain ⟨j, hj1, hj2, rfl, heq, n, rfl⟩ := hrel
    by_cases hj : 0 ≤ j
    · obtain ⟨m, rfl⟩ := Int.eq_ofNat_of_zero_le hj
      have HEQ := Lib.hid heq; clear heq
      have hm : m < l := by omega
      have h1 : w.cell? ⟨b, off + m, none⟩ = some (.int .u32 (xs[m]?.getD 0 : Nat)) := HCX.out m hm
      have h2 : w.cell? ⟨b', off' + m, none⟩ = some (.int .u32 (ys[m]?.getD 0 : Nat)) := HCY.out m hm
      obtain ⟨x, ex⟩ : ∃ x, x = xs[m]?.getD 0 := ⟨_, rfl⟩
      obtain ⟨y, ey⟩ : ∃ y, y = ys[m]?.getD 0 := ⟨_, rfl⟩
      rw [← ex] at h1
      rw [← ey] at h2
      have EX := Lib.hid ex; have EY := Lib.hid ey
      clear ex ey
      rcases Nat.lt_trichotomy x y with h | h | h
      · go_wp2
        go_quiet (fail)
        go_wp2
        go_ret
        exact ⟨ret_int (cmp_lt m l HX.out HY.out HLX.out HLY.out HEQ.out (by rw [← EX.out, ← EY.out]; exact h)).symm, (by repeat (first | exact Drawn.refl _ | apply Drawn.drew | apply Drawn.one))⟩
      · subst h
        go_wp2
        go_quiet (fail)
        go_wp2
        go_quiet (fail)
        go_wp2
        go_roundw
        case rel =>
          refine ⟨(m : Int) - 1, by omega, by omega, by go_num, ?_, (by repeat (first | exact Drawn.refl _ | apply Drawn.drew | apply Drawn.one))⟩
          intro t ht
          by_cases e : t = m
          · subst e; rw [← EX.out, ← EY.out]
          · exact HEQ.out t (by omega)
        case measure => simp [intOf]
      · go_wp2
        go_quiet (fail)
        go_wp2
        go_quiet (fail)
        go_wp2
        go_ret
        exact ⟨ret_int (cmp_gt m l HX.out HY.out HLX.out HLY.out HEQ.out (by rw [← EX.out, ← EY.out]; exact h)).symm, (by repeat (first | exact Drawn.refl _ | apply Drawn.drew | apply Drawn.one))⟩
    · have hj' : j = -1 := by omega
      subst hj'
      have HEQ := Lib.hid heq; clear heq
      go_wp2
      go_ret
      exact ⟨ret_int (cmp_eq l HX.out HY.out HEQ.out).symm, (by repeat (first | exact Drawn.refl _ | apply Drawn.drew | apply Drawn.one))⟩
theorem compare_any {xs ys : List Nat} {va vb : Value} {w : World} (ha : Sl w va xs) (hb : Sl w vb ys) :
    Calls Tryz.prog 119 #[va, vb] w fun e w' => e = .returned (.int .i64 (cmpL xs ys)) ∧ Drawn w w' := by
  obtain ⟨⟨ao, ca, rfl, hca, hma, ha, _⟩, hxl, _⟩ := ha
  obtain ⟨⟨bo, cb, rfl, hcb, hmb, hb, _⟩, hyl, _⟩ := hb
  by_cases h : xs.length = ys.length
  · by_cases h0 : xs.length = 0
    · have hx : xs = [] := List.eq_nil_of_length_eq_zero h0
      have hy : ys = [] := List.eq_nil_of_length_eq_zero (by omega)
      subst hx; subst hy
      exact (compare_zero ao bo ca cb w).mono fun e w' h => ⟨h.1, h.2 ▸ Drawn.refl _⟩
    · obtain ⟨b, off, rfl, h1⟩ := ha.cells (by omega)
      obtain ⟨b', off', rfl, h2⟩ := hb.cells (by omega)
      rw [← h]
      exact compare_same b off b' off' xs.length ca cb xs ys w rfl h.symm (by omega) hxl hyl h1 (by rw [h]; exact h2)
  · refine (compare_len ao bo xs.length ys.length ca cb w h (by omega) (by omega)).mono fun e w' hh => ⟨?_, hh.2 ▸ Drawn.refl _⟩
    rw [hh.1, cmp_len h]
-- the reference's Order
set_option maxHeartbeats 400000 in
theorem order_len (ao bo : Option Addr) (l m ca cb : Nat) (w : World) (hne : l ≠ m) (_hl : l ≤ maxLen) (_hm : m ≤ maxLen) :
    Calls Tryz.prog 76 #[.slice ao l ca, .slice bo m cb] w fun e w' => e = .returned (.int .i64 (if l < m then -1 else 1)) ∧ w = w' := by
  unfold maxLen at _hl _hm
  by_cases h : l < m
  · go_enter Tryz.func76, Tryz.ntmps76
    go_wp2
    go_ret
    exact ⟨by simp, rfl⟩
  · go_enter Tryz.func76, Tryz.ntmps76
    go_wp2
    go_ret
    exact ⟨by simp, rfl⟩
set_option maxHeartbeats 400000 in
theorem order_zero (ao bo : Option Addr) (ca cb : Nat) (w : World) :
    Calls Tryz.prog 76 #[.slice ao 0 ca, .slice bo 0 cb] w fun e w' => e = .returned (.int .i64 0) ∧ w = w' := by
  go_enter Tryz.func76, Tryz.ntmps76
  go_wp2
  refine wp_loop_rounds 1 ?_
  rw [rounds_succ]
  go_wp2
  go_ret
  exact ⟨rfl, rfl⟩
set_option maxHeartbeats 800000 in
theorem order_same (b off b' off' l ca cb : Nat) (xs ys : List Nat) (w : World) (hxl : xs.length = l) (hyl : ys.length = l) (hl : l ≤ maxLen) (hx : Lt xs) (hy : Lt ys)
    (hcx : ∀ i : Nat, i < l → w.cell? ⟨b, off + i, none⟩ = some (.int .u32 (xs[i]?.getD 0 : Nat))) (hcy : ∀ i : Nat, i < l → w.cell? ⟨b', off' + i, none⟩ = some (.int .u32 (ys[i]?.getD 0 : Nat))) :
    Calls Tryz.prog 76 #[.slice (some ⟨b, off, none⟩) l ca, .slice (some ⟨b', off', none⟩) l cb] w fun e w' => e = .returned (.int .i64 (cmpL xs ys)) ∧ Drawn w w' := by
  unfold maxLen at hl
  have HX := Lib.hid hxl; have HY := Lib.hid hyl; have HCX := Lib.hid hcx; have HCY := Lib.hid hcy; have HLX := Lib.hid hx; have HLY := Lib.hid hy
  clear hxl hyl hcx hcy hx hy
  go_enter Tryz.func76, Tryz.ntmps76
  go_wp2
  go_loopw [5] (fun i wr => ∃ j : Int, -1 ≤ j ∧ j < l ∧ i = .int .i64 j ∧ EqFrom (j + 1).toNat xs ys ∧ Drawn w wr) (fun i _ => (intOf i + 1).toNat)
  case atStart => exact ⟨_, by omega, by omega, rfl, fun j hj => by have := HX.out; have := HY.out; rw [List.getElem?_eq_none (by omega), List.getElem?_eq_none (by omega)], 0, rfl⟩
  case round =>
    obtain ⟨j, hj1, hj2, rfl, heq, n, rfl⟩ := hrel
    by_cases hj : 0 ≤ j
    · obtain ⟨m, rfl⟩ := Int.eq_ofNat_of_zero_le hj
      have HEQ := Lib.hid heq; clear heq
      have hm : m < l := by omega
      have h1 : w.cell? ⟨b, off + m, none⟩ = some (.int .u32 (xs[m]?.getD 0 : Nat)) := HCX.out m hm
      have h2 : w.cell? ⟨b', off' + m, none⟩ = some (.int .u32 (ys[m]?.getD 0 : Nat)) := HCY.out m hm
      obtain ⟨x, ex⟩ : ∃ x, x = xs[m]?.getD 0 := ⟨_, rfl⟩
      obtain ⟨y, ey⟩ : ∃ y, y = ys[m]?.getD 0 := ⟨_, rfl⟩
      rw [← ex] at h1
      rw [← ey] at h2
      have EX := Lib.hid ex; have EY := Lib.hid ey
      clear ex ey
      rcases Nat.lt_trichotomy x y with h | h | h
      · have hne : ((x : Int) != y) = true := by rw [bne_iff_ne]; omega
        go_wp2
        go_quiet (fail)
        go_wp2
        go_quiet (fail)
        go_wp2
        go_ret
        exact ⟨ret_int (cmp_lt m l HX.out HY.out HLX.out HLY.out HEQ.out (by rw [← EX.out, ← EY.out]; exact h)).symm, (by repeat (first | exact Drawn.refl _ | apply Drawn.drew | apply Drawn.one))⟩
      · subst h
        go_wp2
        go_quiet (fail)
        go_wp2
        go_roundw
        case rel =>
          refine ⟨(m : Int) - 1, by omega, by omega, by go_num, ?_, (by repeat (first | exact Drawn.refl _ | apply Drawn.drew | apply Drawn.one))⟩
          intro t ht
          by_cases e : t = m
          · subst e; rw [← EX.out, ← EY.out]
          · exact HEQ.out t (by omega)
        case measure => simp [intOf]
      · have hne : ((x : Int) != y) = true := by rw [bne_iff_ne]; omega
        go_wp2
        go_quiet (fail)
        go_wp2
        go_quiet (fail)
        go_wp2
        go_ret
        exact ⟨ret_int (cmp_gt m l HX.out HY.out HLX.out HLY.out HEQ.out (by rw [← EX.out, ← EY.out]; exact h)).symm, (by repeat (first | exact Drawn.refl _ | apply Drawn.drew | apply Drawn.one))⟩
    · have hj' : j = -1 := by omega
      subst hj'
      have HEQ := Lib.hid heq; clear heq
      go_wp2
      go_ret
      exact ⟨ret_int (cmp_eq l HX.out HY.out HEQ.out).symm, (by repeat (first | exact Drawn.refl _ | apply Drawn.drew | apply Drawn.one))⟩
theorem order_any {xs ys : List Nat} {va vb : Value} {w : World} (ha : Sl w va xs) (hb : Sl w vb ys) :
    Calls Tryz.prog 76 #[va, vb] w fun e w' => e = .returned (.int .i64 (cmpL xs ys)) ∧ Drawn w w' := by
  obtain ⟨⟨ao, ca, rfl, hca, hma, ha, _⟩, hxl, _⟩ := ha
  obtain ⟨⟨bo, cb, rfl, hcb, hmb, hb, _⟩, hyl, _⟩ := hb
  by_cases h : xs.length = ys.length
  · by_cases h0 : xs.length = 0
    · have hx : xs = [] := List.eq_nil_of_length_eq_zero h0
      have hy : ys = [] := List.eq_nil_of_length_eq_zero (by omega)
      subst hx; subst hy
      exact (order_zero ao bo ca cb w).mono fun e w' h => ⟨h.1, h.2 ▸ Drawn.refl _⟩
    · obtain ⟨b, off, rfl, h1⟩ := ha.cells (by omega)
      obtain ⟨b', off', rfl, h2⟩ := hb.cells (by omega)
      rw [← h]
      exact order_same b off b' off' xs.length ca cb xs ys w rfl h.symm (by omega) hxl hyl h1 (by rw [h]; exact h2)
  · refine (order_len ao bo xs.length ys.length ca cb w h (by omega) (by omega)).mono fun e w' hh => ⟨?_, hh.2 ▸ Drawn.refl _⟩
    rw [hh.1, cmp_len h]

/-- What Compare says: nothing of what is not well-formed. -/
def cmpW (xs ys : List Nat) : Int := if wf xs && wf ys then cmpL xs ys else 0
set_option maxHeartbeats 400000 in
theorem Compare_any {xs ys : List Nat} {va vb : Value} {w : World} (ha : Sl w va xs) (hb : Sl w vb ys) :
    Calls Tryz.prog 85 #[va, vb] w fun e w' => e = .returned (.int .i64 (cmpW xs ys)) ∧ Drawn w w' := by
  have HA := Lib.hid ha; have HB := Lib.hid hb; clear ha hb
  cases hx : wf xs with
  | false =>
    have HX := Lib.hid hx; clear hx
    go_enter Tryz.func85, Tryz.ntmps85
    go_wp2_with fail
    refine (check_any HA.out).mono ?_
    rintro e w' ⟨rfl, rfl⟩
    rw [HX.out]
    go_wp2
    go_ret
    exact ⟨ret_int (by unfold cmpW; rw [HX.out]; rfl), Drawn.refl _⟩
  | true =>
    cases hy : wf ys with
    | false =>
      have HX := Lib.hid hx; have HY := Lib.hid hy; clear hx hy
      go_enter Tryz.func85, Tryz.ntmps85
      go_wp2_with fail
      refine (check_any HA.out).mono ?_
      rintro e w' ⟨rfl, rfl⟩
      rw [HX.out]
      go_wp2_with fail
      refine (check_any HB.out).mono ?_
      rintro e w' ⟨rfl, rfl⟩
      rw [HY.out]
      go_wp2
      go_ret
      exact ⟨ret_int (by unfold cmpW; rw [HX.out, HY.out]; rfl), Drawn.refl _⟩
    | true =>
      have HX := Lib.hid hx; have HY := Lib.hid hy; clear hx hy
      go_enter Tryz.func85, Tryz.ntmps85
      go_wp2_with fail
      refine (check_any HA.out).mono ?_
      rintro e w' ⟨rfl, rfl⟩
      rw [HX.out]
      go_wp2_with fail
      refine (check_any HB.out).mono ?_
      rintro e w' ⟨rfl, rfl⟩
      rw [HY.out]
      go_wp2_with fail
      refine (compare_any HA.out HB.out).mono ?_
      rintro e w' ⟨rfl, hd⟩
      go_wp2
      go_ret
      exact ⟨ret_int (by unfold cmpW; rw [HX.out, HY.out]; rfl), hd⟩
end Go.Proofs.YtgpochhndjadhaaGreatDoor
