/- Contracts of the functions that add and subtract in place. -/
import Derived.Test.YtdoponlhiidimaaGreatDoorBase
import Derived.Test.YtdoponlhiidimaaGreatDoorShelf
namespace Go.Proofs.YtdoponlhiidimaaGreatDoor
open Go.RowKit LimbN
set_option maxHeartbeats 1000000 in
theorem addTo_any (g o n cap : Nat) (t : TypeId) (zs ys : List Nat) (vb : Value) (w : World) (hrow : Row w g t zs) (hzs : Lt zs) (hfit : o + n ≤ zs.length) (hn : n ≤ maxLen) (hb : Sl w vb ys) (hoff : Off g vb ys) (hle : ys.length ≤ n) :
    Calls Tryz.prog 73 #[.slice (some ⟨g, o, none⟩) n cap, vb] w fun e w' => ∃ zr c, e = .returned (.bool (!(decide (c = 0)))) ∧ AddRel zs o n c (val ys) zr ∧ c ≤ 1 ∧ Row w' g t zr ∧ Only g w w' := by
  obtain ⟨⟨ao, cb, rfl, hcb, hcm, hat, _⟩, hys, _⟩ := hb
  unfold maxLen at hn hcm
  have HROW := Lib.hid hrow; have HZS := Lib.hid hzs; have HAT := Lib.hid hat; have HYS := Lib.hid hys; have HOFF := Lib.hid hoff
  clear hrow hzs hat hys hoff
  go_enter Tryz.func73, Tryz.ntmps73
  go_wp2
  go_loopw [9, 5] (fun i c wr => ∃ (k c' : Nat) (zr : List Nat), k ≤ n ∧ i = .int .i64 k ∧ c = .int .u64 c' ∧ c' ≤ 1 ∧ AddRel zs o k c' (val (ys.take k)) zr ∧ Row wr g t zr ∧ Only g w wr) (fun i _ _ => n - (intOf i).toNat)
  case atStart => exact ⟨0, 0, zs, Nat.zero_le _, rfl, rfl, by omega, by simpa [val] using AddRel.start zs o HZS.out, HROW.out, Only.refl _ _⟩
  case round =>
    obtain ⟨k, c', zr, hk, rfl, rfl, hc1, hrel', hrow, honly⟩ := hrel
    by_cases hlt : k < n
    · have hzl := hrel'.len
      have hz := hrel'.lt (o + k)
      have hcell : wr.cell? ⟨g, o + k, none⟩ = some (.int .u32 (zr[o + k]?.getD 0 : Nat)) := hrow.cell (o + k) (by omega)
      have hfree : wr.frozen? ⟨g, o + k, none⟩ = false := hrow.free _
      have HREL := Lib.hid hrel'; have HROW2 := Lib.hid hrow; have HON := Lib.hid honly
      clear hrel' hrow honly
      obtain ⟨z, ez⟩ : ∃ z, z = zr[o + k]?.getD 0 := ⟨_, rfl⟩
      rw [← ez] at hcell hz
      have EZ := Lib.hid ez
      clear ez
      by_cases hy : k < ys.length
      · have hyb := HYS.out k
        obtain ⟨b, off, rfl, hcy⟩ := HAT.out.cells (by omega)
        have hcelly : wr.cell? ⟨b, off + k, none⟩ = some (.int .u32 (ys[k]?.getD 0 : Nat)) := (World.cell?_of_block (HON.out.block b (HOFF.out (fun h => by rw [h] at hy; simp at hy) _ _ _ rfl))).trans (hcy k hy)
        have hbg : b ≠ g := HOFF.out (fun h => by rw [h] at hy; simp at hy) _ _ _ rfl
        obtain ⟨y, ey⟩ : ∃ y, y = ys[k]?.getD 0 := ⟨_, rfl⟩
        rw [← ey] at hcelly hyb
        have EY := Lib.hid ey
        clear ey hcy
        go_wp2
        go_roundw
        case rel =>
          refine ⟨k + 1, (c' + (z + y)) / 4294967296, _, by omega, vint (by omega), vint (by omega), by omega, ?_, HROW2.out.set' _ ((c' + (z + y)) % 4294967296) _ (by omega), HON.out.set _ _⟩
          rw [val_take_succ, ← EY.out]
          exact HREL.out.step (by omega) y _ (by rw [← EZ.out])
        case measure => simp [intOf]; omega
      · go_wp2
        go_roundw
        case rel =>
          refine ⟨k + 1, (c' + (z + 0)) / 4294967296, _, by omega, vint (by omega), vint (by omega), by omega, ?_, HROW2.out.set' _ ((c' + (z + 0)) % 4294967296) _ (by omega), HON.out.set _ _⟩
          rw [val_take_succ, List.getElem?_eq_none (by omega : ys.length ≤ k)]
          exact HREL.out.step (by omega) 0 _ (by rw [← EZ.out])
        case measure => simp [intOf]; omega
    · have hkn : k = n := by omega
      subst hkn
      have HREL := Lib.hid hrel'; have HROW2 := Lib.hid hrow; have HON := Lib.hid honly
      clear hrel' hrow honly
      go_wp2
      go_ret
      refine ⟨zr, c', ret_bool ?_, ?_, hc1, HROW2.out, HON.out⟩
      · rw [Bool.eq_iff_iff]; simp
      · have := HREL.out; rwa [List.take_of_length_le (by omega)] at this

set_option maxHeartbeats 1000000 in
theorem subtractFrom_any (g o n cap f : Nat) (t : TypeId) (zs ys : List Nat) (vb : Value) (w : World) (hrow : Row w g t zs) (hzs : Lt zs) (hfit : o + n ≤ zs.length) (hn : n ≤ maxLen) (hb : Sl w vb ys) (hoff : Off g vb ys) (hle : ys.length ≤ n) (hf : f < 4294967296) :
    Calls Tryz.prog 106 #[.slice (some ⟨g, o, none⟩) n cap, vb, .int .u32 f] w fun e w' => ∃ zr c, e = .returned (.bool (!(decide (c = 0)))) ∧ SubRel zs o n c f (val ys) zr ∧ Row w' g t zr ∧ Only g w w' := by
  obtain ⟨⟨ao, cb, rfl, hcb, hcm, hat, _⟩, hys, _⟩ := hb
  unfold maxLen at hn hcm
  have HROW := Lib.hid hrow; have HZS := Lib.hid hzs; have HAT := Lib.hid hat; have HYS := Lib.hid hys; have HOFF := Lib.hid hoff
  clear hrow hzs hat hys hoff
  go_enter Tryz.func106, Tryz.ntmps106
  go_wp2
  go_loopw [12, 7] (fun i c wr => ∃ (k c' : Nat) (zr : List Nat), k ≤ n ∧ i = .int .i64 k ∧ c = .int .u64 c' ∧ c' < 4294967296 ∧ SubRel zs o k c' f (val (ys.take k)) zr ∧ Row wr g t zr ∧ Only g w wr) (fun i _ _ => n - (intOf i).toNat)
  case atStart => exact ⟨0, 0, zs, Nat.zero_le _, rfl, rfl, by omega, by simpa [val] using SubRel.start zs o f HZS.out, HROW.out, Only.refl _ _⟩
  case round =>
    obtain ⟨k, c', zr, hk, rfl, rfl, hc1, hrel', hrow, honly⟩ := hrel
    by_cases hlt : k < n
    · have hzl := hrel'.len
      have hz := hrel'.lt (o + k)
      have hcell : wr.cell? ⟨g, o + k, none⟩ = some (.int .u32 (zr[o + k]?.getD 0 : Nat)) := hrow.cell (o + k) (by omega)
      have hfree : wr.frozen? ⟨g, o + k, none⟩ = false := hrow.free _
      have HREL := Lib.hid hrel'; have HROW2 := Lib.hid hrow; have HON := Lib.hid honly
      clear hrel' hrow honly
      obtain ⟨z, ez⟩ : ∃ z, z = zr[o + k]?.getD 0 := ⟨_, rfl⟩
      rw [← ez] at hcell hz
      have EZ := Lib.hid ez
      clear ez
      by_cases hy : k < ys.length
      · have hyb := HYS.out k
        obtain ⟨b, off, rfl, hcy⟩ := HAT.out.cells (by omega)
        have hcelly : wr.cell? ⟨b, off + k, none⟩ = some (.int .u32 (ys[k]?.getD 0 : Nat)) := (World.cell?_of_block (HON.out.block b (HOFF.out (fun h => by rw [h] at hy; simp at hy) _ _ _ rfl))).trans (hcy k hy)
        have hbg : b ≠ g := HOFF.out (fun h => by rw [h] at hy; simp at hy) _ _ _ rfl
        obtain ⟨y, ey⟩ : ∃ y, y = ys[k]?.getD 0 := ⟨_, rfl⟩
        rw [← ey] at hcelly hyb
        have EY := Lib.hid ey
        clear ey hcy
        have hm := mul_small hyb hf
        have hm0 : (0 : Int) ≤ (y : Int) * (f : Int) := by rw [← Int.natCast_mul]; exact Int.natCast_nonneg _
        have hm1 : (y : Int) * (f : Int) ≤ 18446744065119617025 := by rw [← Int.natCast_mul]; omega
        by_cases hzt : (z : Int) < ((c' : Int) + (y : Int) * (f : Int)) % 4294967296
        · go_wp2
          go_roundw
          case rel =>
            refine ⟨k + 1, (c' + y * f) / 4294967296 + 1, _, by omega, vint (by omega), vint (by omega), by omega, ?_, HROW2.out.set' _ (z + 4294967296 - (c' + y * f) % 4294967296) _ (by omega), HON.out.set _ _⟩
            rw [val_take_succ, ← EY.out]
            exact HREL.out.step (by omega) y _ _ (by omega) (by rw [← EZ.out, Nat.mul_comm f y]; omega)
          case measure => simp [intOf]; omega
        · go_wp2
          go_roundw
          case rel =>
            refine ⟨k + 1, (c' + y * f) / 4294967296, _, by omega, vint (by omega), vint (by omega), by omega, ?_, HROW2.out.set' _ (z - (c' + y * f) % 4294967296) _ (by omega), HON.out.set _ _⟩
            rw [val_take_succ, ← EY.out]
            exact HREL.out.step (by omega) y _ _ (by omega) (by rw [← EZ.out, Nat.mul_comm f y]; omega)
          case measure => simp [intOf]; omega
      · by_cases hzt : (z : Int) < (c' : Int)
        · go_wp2
          go_roundw
          case rel =>
            refine ⟨k + 1, 1, _, by omega, vint (by omega), vint (by omega), by omega, ?_, HROW2.out.set' _ (z + 4294967296 - c') _ (by omega), HON.out.set _ _⟩
            rw [val_take_succ, List.getElem?_eq_none (by omega : ys.length ≤ k)]
            exact HREL.out.step (by omega) 0 _ _ (by omega) (by rw [← EZ.out]; omega)
          case measure => simp [intOf]; omega
        · go_wp2
          go_roundw
          case rel =>
            refine ⟨k + 1, 0, _, by omega, vint (by omega), vint (by omega), by omega, ?_, HROW2.out.set' _ (z - c') _ (by omega), HON.out.set _ _⟩
            rw [val_take_succ, List.getElem?_eq_none (by omega : ys.length ≤ k)]
            exact HREL.out.step (by omega) 0 _ _ (by omega) (by rw [← EZ.out]; omega)
          case measure => simp [intOf]; omega
    · have hkn : k = n := by omega
      subst hkn
      have HREL := Lib.hid hrel'; have HROW2 := Lib.hid hrow; have HON := Lib.hid honly
      clear hrel' hrow honly
      go_wp2
      go_ret
      refine ⟨zr, c', ret_bool ?_, ?_, HROW2.out, HON.out⟩
      · rw [Bool.eq_iff_iff]; simp
      · have := HREL.out; rwa [List.take_of_length_le (by omega)] at this
end Go.Proofs.YtdoponlhiidimaaGreatDoor

/- Contracts of the functions that only read numbers: of the program and of the reference. Conditions: the slices hold the digits that are named, each below 2^32. -/
namespace Go.Proofs.YtdoponlhiidimaaGreatDoor
open Go.RowKit LimbN

theorem wf_nil : wf [] = true := rfl
theorem wf_pos {xs : List Nat} (h : 0 < xs.length) : wf xs = (decide (xs.length ≤ 128) && !(xs[xs.length - 1]?.getD 0 == 0)) := by
  unfold wf; rw [decide_eq_false (by omega : ¬ xs.length = 0)]; rfl

-- natural.Check
set_option maxHeartbeats 400000 in
theorem check_nil (ao : Option Addr) (cap : Nat) (w : World) :
    Calls Tryz.prog 40 #[.slice ao 0 cap] w fun e w' => e = .returned (.bool true) ∧ w = w' := by
  go_enter Tryz.func40, Tryz.ntmps40
  go_wp2
  go_ret
  exact ⟨rfl, rfl⟩
set_option maxHeartbeats 400000 in
theorem check_cons (b off len cap x : Nat) (w : World) (hl : 0 < len) (hm : len ≤ maxLen) (hc : len ≤ 128 → w.cell? ⟨b, off + (len - 1), none⟩ = some (.int .u32 x)) :
    Calls Tryz.prog 40 #[.slice (some ⟨b, off, none⟩) len cap] w fun e w' => e = .returned (.bool (decide (len ≤ 128) && !(x == 0))) ∧ w = w' := by
  unfold maxLen at hm
  by_cases h : len ≤ 128
  · have hc := hc h
    have e : (len : Int) ≤ 128 := by omega
    by_cases hx : x = 0
    · subst hx
      go_enter Tryz.func40, Tryz.ntmps40
      go_wp2
      go_ret
      exact ⟨by simp, rfl⟩
    · go_enter Tryz.func40, Tryz.ntmps40
      go_wp2
      go_ret
      exact ⟨ret_bool (by rw [decide_eq_true h, beq_eq_false_iff_ne.2 hx]; simp [bne_iff_ne]; omega), rfl⟩
  · go_enter Tryz.func40, Tryz.ntmps40
    go_wp2
    go_ret
    exact ⟨by simp, rfl⟩
theorem check_any {xs : List Nat} {v : Value} {w : World} (hs : Sl w v xs) :
    Calls Tryz.prog 40 #[v] w fun e w' => e = .returned (.bool (wf xs)) ∧ w = w' := by
  obtain ⟨⟨ao, cap, rfl, hcap, hm, ha, _⟩, _, _⟩ := hs
  cases hx : xs with
  | nil => exact check_nil ao cap w
  | cons y ys =>
    rw [← hx]
    have hl : 0 < xs.length := by rw [hx]; simp
    obtain ⟨b, off, rfl, hc⟩ := ha.cells hl
    refine (check_cons b off xs.length cap (xs[xs.length - 1]?.getD 0) w hl (by omega) (fun _ => hc _ (by omega))).mono fun e w' h => ⟨?_, h.2⟩
    rw [h.1, wf_pos hl]
-- the reference's Check
set_option maxHeartbeats 400000 in
theorem rcheck_nil (ao : Option Addr) (cap : Nat) (w : World) :
    Calls Tryz.prog 38 #[.slice ao 0 cap] w fun e w' => e = .returned (.bool true) ∧ w = w' := by
  go_enter Tryz.func38, Tryz.ntmps38
  go_wp2
  go_ret
  exact ⟨rfl, rfl⟩
set_option maxHeartbeats 400000 in
theorem rcheck_cons (b off len cap x : Nat) (w : World) (hl : 0 < len) (hm : len ≤ maxLen) (hc : len ≤ 128 → w.cell? ⟨b, off + (len - 1), none⟩ = some (.int .u32 x)) :
    Calls Tryz.prog 38 #[.slice (some ⟨b, off, none⟩) len cap] w fun e w' => e = .returned (.bool (decide (len ≤ 128) && !(x == 0))) ∧ w = w' := by
  unfold maxLen at hm
  have h0 : ((len : Int) == 0) = false := beq_eq_false_iff_ne.2 (by omega)
  by_cases h : len ≤ 128
  · have hc := hc h
    have e : (len : Int) ≤ 128 := by omega
    by_cases hx : x = 0
    · subst hx
      go_enter Tryz.func38, Tryz.ntmps38
      go_wp2
      go_ret
      exact ⟨by simp, rfl⟩
    · go_enter Tryz.func38, Tryz.ntmps38
      go_wp2
      go_ret
      exact ⟨ret_bool (by rw [decide_eq_true h, beq_eq_false_iff_ne.2 hx]; simp [bne_iff_ne]; omega), rfl⟩
  · go_enter Tryz.func38, Tryz.ntmps38
    go_wp2
    go_ret
    exact ⟨by simp, rfl⟩
theorem rcheck_any {xs : List Nat} {v : Value} {w : World} (hs : Sl w v xs) :
    Calls Tryz.prog 38 #[v] w fun e w' => e = .returned (.bool (wf xs)) ∧ w = w' := by
  obtain ⟨⟨ao, cap, rfl, hcap, hm, ha, _⟩, _, _⟩ := hs
  cases hx : xs with
  | nil => exact rcheck_nil ao cap w
  | cons y ys =>
    rw [← hx]
    have hl : 0 < xs.length := by rw [hx]; simp
    obtain ⟨b, off, rfl, hc⟩ := ha.cells hl
    refine (rcheck_cons b off xs.length cap (xs[xs.length - 1]?.getD 0) w hl (by omega) (fun _ => hc _ (by omega))).mono fun e w' h => ⟨?_, h.2⟩
    rw [h.1, wf_pos hl]

/-- The order of two lists of digits: the longer one is greater. -/
def cmpL (xs ys : List Nat) : Int := if xs.length < ys.length then -1 else if ys.length < xs.length then 1 else if val xs < val ys then -1 else if val ys < val xs then 1 else 0
theorem cmp_len {xs ys : List Nat} (h : xs.length ≠ ys.length) : cmpL xs ys = if xs.length < ys.length then -1 else 1 := by
  unfold cmpL
  by_cases h1 : xs.length < ys.length
  · rw [if_pos h1, if_pos h1]
  · rw [if_neg h1, if_neg h1, if_pos (by omega)]
/-- From k on the digits are equal. -/
def EqFrom (k : Nat) (xs ys : List Nat) : Prop := ∀ j : Nat, k ≤ j → xs[j]?.getD 0 = ys[j]?.getD 0
theorem EqFrom.val {k : Nat} {xs ys : List Nat} (h : EqFrom k xs ys) (hl : xs.length = ys.length) : (k = 0 → val xs = val ys) := by
  intro hk
  subst hk
  have : xs = ys := by
    apply List.ext_getElem hl
    intro i h1 h2
    have := h i (Nat.zero_le _)
    simpa [List.getElem?_eq_getElem h1, List.getElem?_eq_getElem h2] using this
  rw [this]
theorem val_lt_of : ∀ (xs ys : List Nat) (k : Nat), xs.length = ys.length → Lt xs → Lt ys → EqFrom (k + 1) xs ys → xs[k]?.getD 0 < ys[k]?.getD 0 → val xs < val ys := by
  intro xs
  induction xs with
  | nil => intro ys k hl hx hy he h
           cases ys with
           | nil => simp at h
           | cons y ys => simp at hl
  | cons x xs ih =>
    intro ys k hl hx hy he h
    cases ys with
    | nil => simp at hl
    | cons y ys =>
      simp only [List.length_cons, Nat.add_right_cancel_iff] at hl
      have h1 := hx.head
      have h2 := hy.head
      cases k with
      | zero =>
        have e : val xs = val ys := EqFrom.val (k := 0) (fun j _ => by have := he (j + 1) (by omega); simpa using this) hl rfl
        simp only [LimbN.val]
        simp at h
        omega
      | succ k =>
        have := ih ys k hl hx.tail hy.tail (fun j hj => by have := he (j + 1) (by omega); simpa using this) (by simpa using h)
        simp only [LimbN.val]
        omega
theorem cmp_lt {xs ys : List Nat} (m l : Nat) (hx : xs.length = l) (hy : ys.length = l) (hlx : Lt xs) (hly : Lt ys) (he : EqFrom (m + 1) xs ys) (h : xs[m]?.getD 0 < ys[m]?.getD 0) : cmpL xs ys = -1 := by
  have := val_lt_of xs ys m (by rw [hx, hy]) hlx hly he h
  unfold cmpL
  rw [hx, hy, if_neg (by omega), if_neg (by omega), if_pos this]
theorem cmp_gt {xs ys : List Nat} (m l : Nat) (hx : xs.length = l) (hy : ys.length = l) (hlx : Lt xs) (hly : Lt ys) (he : EqFrom (m + 1) xs ys) (h : ys[m]?.getD 0 < xs[m]?.getD 0) : cmpL xs ys = 1 := by
  have := val_lt_of ys xs m (by rw [hx, hy]) hly hlx (fun j hj => (he j hj).symm) h
  unfold cmpL
  rw [hx, hy, if_neg (by omega), if_neg (by omega), if_neg (by omega), if_pos this]
theorem cmp_eq {xs ys : List Nat} (l : Nat) (hx : xs.length = l) (hy : ys.length = l) (he : EqFrom 0 xs ys) : cmpL xs ys = 0 := by
  have := EqFrom.val he (by rw [hx, hy]) rfl
  unfold cmpL
  rw [hx, hy, if_neg (by omega), if_neg (by omega), if_neg (by omega), if_neg (by omega)]
/-- Of canonical lists it is the order of the values. -/
theorem cmp_val (m n : Nat) : cmpL (limbs m) (limbs n) = if m < n then -1 else if n < m then 1 else 0 := by
  have key : ∀ a b : Nat, (limbs a).length < (limbs b).length → a < b := by
    intro a b h
    rcases Nat.lt_or_ge a b with h1 | h1
    · exact h1
    · have h2 : (limbs a).length ≤ (limbs a).length := Nat.le_refl _
      rw [limbs_len_le] at h2
      have h3 : (limbs b).length ≤ (limbs a).length := limbs_len_le.2 (by omega)
      omega
  unfold cmpL
  rw [val_limbs, val_limbs]
  by_cases h1 : (limbs m).length < (limbs n).length
  · rw [if_pos h1, if_pos (key _ _ h1)]
  · rw [if_neg h1]
    by_cases h2 : (limbs n).length < (limbs m).length
    · have := key _ _ h2
      rw [if_pos h2, if_neg (by omega), if_pos this]
    · rw [if_neg h2]

-- natural.compare
set_option maxHeartbeats 400000 in
theorem compare_len (ao bo : Option Addr) (l m ca cb : Nat) (w : World) (hne : l ≠ m) (_hl : l ≤ maxLen) (_hm : m ≤ maxLen) :
    Calls Tryz.prog 85 #[.slice ao l ca, .slice bo m cb] w fun e w' => e = .returned (.int .i64 (if l < m then -1 else 1)) ∧ w = w' := by
  unfold maxLen at _hl _hm
  by_cases h : l < m
  · go_enter Tryz.func85, Tryz.ntmps85
    go_wp2
    go_ret
    exact ⟨by simp, rfl⟩
  · go_enter Tryz.func85, Tryz.ntmps85
    go_wp2
    go_ret
    exact ⟨by simp, rfl⟩
set_option maxHeartbeats 400000 in
theorem compare_zero (ao bo : Option Addr) (ca cb : Nat) (w : World) :
    Calls Tryz.prog 85 #[.slice ao 0 ca, .slice bo 0 cb] w fun e w' => e = .returned (.int .i64 0) ∧ w = w' := by
  go_enter Tryz.func85, Tryz.ntmps85
  go_wp2
  refine wp_loop_rounds 1 ?_
  rw [rounds_succ]
  go_wp2
  go_ret
  exact ⟨rfl, rfl⟩
set_option maxHeartbeats 800000 in
theorem compare_same (b off b' off' l ca cb : Nat) (xs ys : List Nat) (w : World) (hxl : xs.length = l) (hyl : ys.length = l) (hl : l ≤ maxLen) (hx : Lt xs) (hy : Lt ys)
    (hcx : ∀ i : Nat, i < l → w.cell? ⟨b, off + i, none⟩ = some (.int .u32 (xs[i]?.getD 0 : Nat))) (hcy : ∀ i : Nat, i < l → w.cell? ⟨b', off' + i, none⟩ = some (.int .u32 (ys[i]?.getD 0 : Nat))) :
    Calls Tryz.prog 85 #[.slice (some ⟨b, off, none⟩) l ca, .slice (some ⟨b', off', none⟩) l cb] w fun e w' => e = .returned (.int .i64 (cmpL xs ys)) ∧ Drawn w w' := by
  unfold maxLen at hl
  have HX := Lib.hid hxl; have HY := Lib.hid hyl; have HCX := Lib.hid hcx; have HCY := Lib.hid hcy; have HLX := Lib.hid hx; have HLY := Lib.hid hy
  clear hxl hyl hcx hcy hx hy
  go_enter Tryz.func85, Tryz.ntmps85
  go_wp2
  go_loopw [5] (fun i wr => ∃ j : Int, -1 ≤ j ∧ j < l ∧ i = .int .i64 j ∧ EqFrom (j + 1).toNat xs ys ∧ Drawn w wr) (fun i _ => (intOf i + 1).toNat)
  case atStart => exact ⟨_, by omega, by omega, rfl, fun j hj => by have := HX.out; have := HY.out; rw [List.getElem?_eq_none (by omega), List.getElem?_eq_none (by omega)], 0, rfl⟩
  case round =>
    obtain ⟨j, hj1, hj2, rfl, heq, n, rfl⟩ := hrel
    by_cases hj : 0 ≤ j
    · obtain ⟨m, rfl⟩ := Int.eq_ofNat_of_zero_le hj
      have HEQ := Lib.hid heq; clear heq
      have hm : m < l := by omega
      have h1 : w.cell? ⟨b, off + m, none⟩ = some (.int .u32 (xs[m]?.getD 0 : Nat)) := HCX.out m hm
      have h2 : w.cell? ⟨b', off' + m, none⟩ = some (.int .u32 (ys[m]?.getD 0 : Nat)) := HCY.out m hm
      obtain ⟨x, ex⟩ : ∃ x, x = xs[m]?.getD 0 := ⟨_, rfl⟩
      obtain ⟨y, ey⟩ : ∃ y, y = ys[m]?.getD 0 := ⟨_, rfl⟩
      rw [← ex] at h1
      rw [← ey] at h2
      have EX := Lib.hid ex; have EY := Lib.hid ey
      clear ex ey
      rcases Nat.lt_trichotomy x y with h | h | h
      · go_wp2
        go_quiet (fail)
        go_wp2
        go_ret
        exact ⟨ret_int (cmp_lt m l HX.out HY.out HLX.out HLY.out HEQ.out (by rw [← EX.out, ← EY.out]; exact h)).symm, (by repeat (first | exact Drawn.refl _ | apply Drawn.drew | apply Drawn.one))⟩
      · subst h
        go_wp2
        go_quiet (fail)
        go_wp2
        go_quiet (fail)
        go_wp2
        go_roundw
        case rel =>
          refine ⟨(m : Int) - 1, by omega, by omega, by go_num, ?_, (by repeat (first | exact Drawn.refl _ | apply Drawn.drew | apply Drawn.one))⟩
          intro t ht
          by_cases e : t = m
          · subst e; rw [← EX.out, ← EY.out]
          · exact HEQ.out t (by omega)
        case measure => simp [intOf]
      · go_wp2
        go_quiet (fail)
        go_wp2
        go_quiet (fail)
        go_wp2
        go_ret
        exact ⟨ret_int (cmp_gt m l HX.out HY.out HLX.out HLY.out HEQ.out (by rw [← EX.out, ← EY.out]; exact h)).symm, (by repeat (first | exact Drawn.refl _ | apply Drawn.drew | apply Drawn.one))⟩
    · have hj' : j = -1 := by omega
      subst hj'
      have HEQ := Lib.hid heq; clear heq
      go_wp2
      go_ret
      exact ⟨ret_int (cmp_eq l HX.out HY.out HEQ.out).symm, (by repeat (first | exact Drawn.refl _ | apply Drawn.drew | apply Drawn.one))⟩
theorem compare_any {xs ys : List Nat} {va vb : Value} {w : World} (ha : Sl w va xs) (hb : Sl w vb ys) :
    Calls Tryz.prog 85 #[va, vb] w fun e w' => e = .returned (.int .i64 (cmpL xs ys)) ∧ Drawn w w' := by
  obtain ⟨⟨ao, ca, rfl, hca, hma, ha, _⟩, hxl, _⟩ := ha
  obtain ⟨⟨bo, cb, rfl, hcb, hmb, hb, _⟩, hyl, _⟩ := hb
  by_cases h : xs.length = ys.length
  · by_cases h0 : xs.length = 0
    · have hx : xs = [] := List.eq_nil_of_length_eq_zero h0
      have hy : ys = [] := List.eq_nil_of_length_eq_zero (by omega)
      subst hx; subst hy
      exact (compare_zero ao bo ca cb w).mono fun e w' h => ⟨h.1, h.2 ▸ Drawn.refl _⟩
    · obtain ⟨b, off, rfl, h1⟩ := ha.cells (by omega)
      obtain ⟨b', off', rfl, h2⟩ := hb.cells (by omega)
      rw [← h]
      exact compare_same b off b' off' xs.length ca cb xs ys w rfl h.symm (by omega) hxl hyl h1 (by rw [h]; exact h2)
  · refine (compare_len ao bo xs.length ys.length ca cb w h (by omega) (by omega)).mono fun e w' hh => ⟨?_, hh.2 ▸ Drawn.refl _⟩
    rw [hh.1, cmp_len h]
-- the reference's Order
set_option maxHeartbeats 400000 in
theorem order_len (ao bo : Option Addr) (l m ca cb : Nat) (w : World) (hne : l ≠ m) (_hl : l ≤ maxLen) (_hm : m ≤ maxLen) :
    Calls Tryz.prog 45 #[.slice ao l ca, .slice bo m cb] w fun e w' => e = .returned (.int .i64 (if l < m then -1 else 1)) ∧ w = w' := by
  unfold maxLen at _hl _hm
  by_cases h : l < m
  · go_enter Tryz.func45, Tryz.ntmps45
    go_wp2
    go_ret
    exact ⟨by simp, rfl⟩
  · go_enter Tryz.func45, Tryz.ntmps45
    go_wp2
    go_ret
    exact ⟨by simp, rfl⟩
set_option maxHeartbeats 400000 in
theorem order_zero (ao bo : Option Addr) (ca cb : Nat) (w : World) :
    Calls Tryz.prog 45 #[.slice ao 0 ca, .slice bo 0 cb] w fun e w' => e = .returned (.int .i64 0) ∧ w = w' := by
  go_enter Tryz.func45, Tryz.ntmps45
  go_wp2
  refine wp_loop_rounds 1 ?_
  rw [rounds_succ]
  go_wp2
  go_ret
  exact ⟨rfl, rfl⟩
set_option maxHeartbeats 800000 in
theorem order_same (b off b' off' l ca cb : Nat) (xs ys : List Nat) (w : World) (hxl : xs.length = l) (hyl : ys.length = l) (hl : l ≤ maxLen) (hx : Lt xs) (hy : Lt ys)
    (hcx : ∀ i : Nat, i < l → w.cell? ⟨b, off + i, none⟩ = some (.int .u32 (xs[i]?.getD 0 : Nat))) (hcy : ∀ i : Nat, i < l → w.cell? ⟨b', off' + i, none⟩ = some (.int .u32 (ys[i]?.getD 0 : Nat))) :
    Calls Tryz.prog 45 #[.slice (some ⟨b, off, none⟩) l ca, .slice (some ⟨b', off', none⟩) l cb] w fun e w' => e = .returned (.int .i64 (cmpL xs ys)) ∧ Drawn w w' := by
  unfold maxLen at hl
  have HX := Lib.hid hxl; have HY := Lib.hid hyl; have HCX := Lib.hid hcx; have HCY := Lib.hid hcy; have HLX := Lib.hid hx; have HLY := Lib.hid hy
  clear hxl hyl hcx hcy hx hy
  go_enter Tryz.func45, Tryz.ntmps45
  go_wp2
  go_loopw [5] (fun i wr => ∃ j : Int, -1 ≤ j ∧ j < l ∧ i = .int .i64 j ∧ EqFrom (j + 1).toNat xs ys ∧ Drawn w wr) (fun i _ => (intOf i + 1).toNat)
  case atStart => exact ⟨_, by omega, by omega, rfl, fun j hj => by have := HX.out; have := HY.out; rw [List.getElem?_eq_none (by omega), List.getElem?_eq_none (by omega)], 0, rfl⟩
  case round =>
    obtain ⟨j, hj1, hj2, rfl, heq, n, rfl⟩ := hrel
    by_cases hj : 0 ≤ j
    · obtain ⟨m, rfl⟩ := Int.eq_ofNat_of_zero_le hj
      have HEQ := Lib.hid heq; clear heq
      have hm : m < l := by omega
      have h1 : w.cell? ⟨b, off + m, none⟩ = some (.int .u32 (xs[m]?.getD 0 : Nat)) := HCX.out m hm
      have h2 : w.cell? ⟨b', off' + m, none⟩ = some (.int .u32 (ys[m]?.getD 0 : Nat)) := HCY.out m hm
      obtain ⟨x, ex⟩ : ∃ x, x = xs[m]?.getD 0 := ⟨_, rfl⟩
      obtain ⟨y, ey⟩ : ∃ y, y = ys[m]?.getD 0 := ⟨_, rfl⟩
      rw [← ex] at h1
      rw [← ey] at h2
      have EX := Lib.hid ex; have EY := Lib.hid ey
      clear ex ey
      rcases Nat.lt_trichotomy x y with h | h | h
      · have hne : ((x : Int) != y) = true := by rw [bne_iff_ne]; omega
        go_wp2
        go_quiet (fail)
        go_wp2
        go_quiet (fail)
        go_wp2
        go_ret
        exact ⟨ret_int (cmp_lt m l HX.out HY.out HLX.out HLY.out HEQ.out (by rw [← EX.out, ← EY.out]; exact h)).symm, (by repeat (first | exact Drawn.refl _ | apply Drawn.drew | apply Drawn.one))⟩
      · subst h
        go_wp2
        go_quiet (fail)
        go_wp2
        go_roundw
        case rel =>
          refine ⟨(m : Int) - 1, by omega, by omega, by go_num, ?_, (by repeat (first | exact Drawn.refl _ | apply Drawn.drew | apply Drawn.one))⟩
          intro t ht
          by_cases e : t = m
          · subst e; rw [← EX.out, ← EY.out]
          · exact HEQ.out t (by omega)
        case measure => simp [intOf]
      · have hne : ((x : Int) != y) = true := by rw [bne_iff_ne]; omega
        go_wp2
        go_quiet (fail)
        go_wp2
        go_quiet (fail)
        go_wp2
        go_ret
        exact ⟨ret_int (cmp_gt m l HX.out HY.out HLX.out HLY.out HEQ.out (by rw [← EX.out, ← EY.out]; exact h)).symm, (by repeat (first | exact Drawn.refl _ | apply Drawn.drew | apply Drawn.one))⟩
    · have hj' : j = -1 := by omega
      subst hj'
      have HEQ := Lib.hid heq; clear heq
      go_wp2
      go_ret
      exact ⟨ret_int (cmp_eq l HX.out HY.out HEQ.out).symm, (by repeat (first | exact Drawn.refl _ | apply Drawn.drew | apply Drawn.one))⟩
theorem order_any {xs ys : List Nat} {va vb : Value} {w : World} (ha : Sl w va xs) (hb : Sl w vb ys) :
    Calls Tryz.prog 45 #[va, vb] w fun e w' => e = .returned (.int .i64 (cmpL xs ys)) ∧ Drawn w w' := by
  obtain ⟨⟨ao, ca, rfl, hca, hma, ha, _⟩, hxl, _⟩ := ha
  obtain ⟨⟨bo, cb, rfl, hcb, hmb, hb, _⟩, hyl, _⟩ := hb
  by_cases h : xs.length = ys.length
  · by_cases h0 : xs.length = 0
    · have hx : xs = [] := List.eq_nil_of_length_eq_zero h0
      have hy : ys = [] := List.eq_nil_of_length_eq_zero (by omega)
      subst hx; subst hy
      exact (order_zero ao bo ca cb w).mono fun e w' h => ⟨h.1, h.2 ▸ Drawn.refl _⟩
    · obtain ⟨b, off, rfl, h1⟩ := ha.cells (by omega)
      obtain ⟨b', off', rfl, h2⟩ := hb.cells (by omega)
      rw [← h]
      exact order_same b off b' off' xs.length ca cb xs ys w rfl h.symm (by omega) hxl hyl h1 (by rw [h]; exact h2)
  · refine (order_len ao bo xs.length ys.length ca cb w h (by omega) (by omega)).mono fun e w' hh => ⟨?_, hh.2 ▸ Drawn.refl _⟩
    rw [hh.1, cmp_len h]

/-- What Compare says: nothing of what is not well-formed. -/
def cmpW (xs ys : List Nat) : Int := if wf xs && wf ys then cmpL xs ys else 0
set_option maxHeartbeats 400000 in
theorem Compare_any {xs ys : List Nat} {va vb : Value} {w : World} (ha : Sl w va xs) (hb : Sl w vb ys) :
    Calls Tryz.prog 93 #[va, vb] w fun e w' => e = .returned (.int .i64 (cmpW xs ys)) ∧ Drawn w w' := by
  have HA := Lib.hid ha; have HB := Lib.hid hb; clear ha hb
  cases hx : wf xs with
  | false =>
    have HX := Lib.hid hx; clear hx
    go_enter Tryz.func93, Tryz.ntmps93
    go_wp2_with fail
    refine (check_any HA.out).mono ?_
    rintro e w' ⟨rfl, rfl⟩
    rw [HX.out]
    go_wp2
    go_ret
    exact ⟨ret_int (by unfold cmpW; rw [HX.out]; rfl), Drawn.refl _⟩
  | true =>
    cases hy : wf ys with
    | false =>
      have HX := Lib.hid hx; have HY := Lib.hid hy; clear hx hy
      go_enter Tryz.func93, Tryz.ntmps93
      go_wp2_with fail
      refine (check_any HA.out).mono ?_
      rintro e w' ⟨rfl, rfl⟩
      rw [HX.out]
      go_wp2_with fail
      refine (check_any HB.out).mono ?_
      rintro e w' ⟨rfl, rfl⟩
      rw [HY.out]
      go_wp2
      go_ret
      exact ⟨ret_int (by unfold cmpW; rw [HX.out, HY.out]; rfl), Drawn.refl _⟩
    | true =>
      have HX := Lib.hid hx; have HY := Lib.hid hy; clear hx hy
      go_enter Tryz.func93, Tryz.ntmps93
      go_wp2_with fail
      refine (check_any HA.out).mono ?_
      rintro e w' ⟨rfl, rfl⟩
      rw [HX.out]
      go_wp2_with fail
      refine (check_any HB.out).mono ?_
      rintro e w' ⟨rfl, rfl⟩
      rw [HY.out]
      go_wp2_with fail
      refine (compare_any HA.out HB.out).mono ?_
      rintro e w' ⟨rfl, hd⟩
      go_wp2
      go_ret
      exact ⟨ret_int (by unfold cmpW; rw [HX.out, HY.out]; rfl), hd⟩
end Go.Proofs.YtdoponlhiidimaaGreatDoor

/- Contracts of the functions that trim, cut and compare numbers. Conditions: the slices hold the digits that are named, each below 2^32. -/
namespace Go.Proofs.YtdoponlhiidimaaGreatDoor
open Go.RowKit LimbN


/-- From k on all digits are 0. -/
def ZeroFrom (k : Nat) (xs : List Nat) : Prop := ∀ j : Nat, k ≤ j → xs[j]?.getD 0 = 0
theorem ZeroFrom.all (xs : List Nat) : ZeroFrom xs.length xs := fun j hj => by rw [List.getElem?_eq_none (by omega)]; rfl
theorem ZeroFrom.down {k : Nat} {xs : List Nat} (h : ZeroFrom (k + 1) xs) (h0 : xs[k]?.getD 0 = 0) : ZeroFrom k xs := by
  intro j hj
  by_cases e : j = k
  · subst e; exact h0
  · exact h j (by omega)
theorem trim_zero {xs : List Nat} (h : ZeroFrom 0 xs) : val xs = 0 := val_eq_zero.2 (fun i => h i (Nat.zero_le _))

/-- A part of a slice. -/
theorem Sl.cut {w : World} {ao : Option Addr} {cap : Nat} {xs : List Nat} (hc : xs.length ≤ cap) (hm : cap ≤ maxLen) (ha : At w ao xs) (hl : Lt xs) (hs : xs.length ≤ 35184372088832) (hno : ao = none → cap = 0) (k : Nat) (hk : k ≤ xs.length) : Sl w (.slice ao k cap) (xs.take k) := by
  have e : (xs.take k).length = k := by rw [List.length_take]; omega
  exact ⟨⟨ao, cap, by rw [e], by omega, hm, ha.take k, hno⟩, hl.take k, by omega⟩

-- natural.trimmed
set_option maxHeartbeats 400000 in
theorem trimmed_walk (ao : Option Addr) (cap : Nat) (xs : List Nat) (w : World) (hc : xs.length ≤ cap) (hm : cap ≤ maxLen) (ha : At w ao xs) :
    Calls Tryz.prog 50 #[.slice ao xs.length cap] w fun e w' =>
      (∃ k, k ≤ xs.length ∧ ZeroFrom k xs ∧ (k = 0 ∨ xs[k - 1]?.getD 0 ≠ 0) ∧ e = .returned (if k = 0 then .slice none 0 0 else .slice ao k cap)) ∧ w = w' := by
  unfold maxLen at hm
  have HAT := Lib.hid ha; clear ha
  obtain ⟨len, hlen⟩ : ∃ len, len = xs.length := ⟨_, rfl⟩
  rw [← hlen] at hc
  rw [← hlen]
  have HL := Lib.hid hlen; clear hlen
  go_enter Tryz.func50, Tryz.ntmps50
  go_wp2
  go_loop [3] (fun i => ∃ k : Nat, k ≤ len ∧ i = .int .i64 k ∧ ZeroFrom k xs) (fun i => (intOf i).toNat)
  case atStart => exact ⟨len, Nat.le_refl _, rfl, by rw [HL.out]; exact ZeroFrom.all xs⟩
  case round =>
    obtain ⟨k, hk, rfl, hz⟩ := hrel
    have HZ := Lib.hid hz; clear hz
    by_cases h0 : k = 0
    · subst h0
      go_wp2
      go_ret
      exact ⟨⟨0, Nat.zero_le _, HZ.out, .inl rfl, rfl⟩, rfl⟩
    · obtain ⟨b, off, rfl, hcells⟩ := HAT.out.cells (by have := HL.out; omega)
      have hcell := hcells (k - 1) (by have := HL.out; omega)
      clear hcells
      obtain ⟨z, ez⟩ : ∃ z, z = xs[k - 1]?.getD 0 := ⟨_, rfl⟩
      rw [← ez] at hcell
      have EZ := Lib.hid ez; clear ez
      have hk0 : (0 : Int) < (k : Int) := by omega
      have hkf : ((k : Int) == 0) = false := beq_eq_false_iff_ne.2 (by omega)
      by_cases hz0 : z = 0
      · subst hz0
        go_wp2
        go_round
        case rel => exact ⟨k - 1, by omega, vint (by omega), ZeroFrom.down (by have := HZ.out; rwa [show k - 1 + 1 = k by omega]) EZ.out.symm⟩
        case measure => simp [intOf]; omega
      · have hzf : ((z : Int) == 0) = false := beq_eq_false_iff_ne.2 (by omega)
        go_wp2
        go_ret
        exact ⟨⟨k, by have := HL.out; omega, HZ.out, .inr (by rw [← EZ.out]; exact hz0), by rw [if_neg h0]; rfl⟩, rfl⟩
theorem trimmed_any {v : Value} {xs : List Nat} {w : World} (hs : Sl w v xs) :
    Calls Tryz.prog 50 #[v] w fun e w' => (∃ v', e = .returned v' ∧ Sl w v' (limbs (val xs)) ∧ ∀ B, New B v → New B v') ∧ w = w' := by
  obtain ⟨⟨ao, cap, rfl, hcap, hm, ha, hno⟩, hl, hsm⟩ := hs
  refine (trimmed_walk ao cap xs w hcap hm ha).mono ?_
  rintro e w' ⟨⟨k, hk, hz, he, rfl⟩, rfl⟩
  refine ⟨⟨_, rfl, ?_, ?_⟩, rfl⟩
  · rw [trim_eq hl k hk hz he]
    by_cases h0 : k = 0
    · subst h0; rw [if_pos rfl]; simpa using Sl.nil w
    · rw [if_neg h0]; exact Sl.cut hcap hm ha hl hsm hno k hk
  · intro B hB
    by_cases h0 : k = 0
    · rw [if_pos h0]; exact New.nil B
    · rw [if_neg h0]; intro a l c e
      simp only [Value.slice.injEq] at e
      exact hB a xs.length cap (by rw [e.1])

-- the reference's trim
set_option maxHeartbeats 400000 in
theorem trim_walk (ao : Option Addr) (cap : Nat) (xs : List Nat) (w : World) (hc : xs.length ≤ cap) (_hm : cap ≤ maxLen) (ha : At w ao xs) (hl : Lt xs) (hsm : xs.length ≤ 35184372088832) :
    Calls Tryz.prog 68 #[.slice ao xs.length cap] w fun e w' =>
      ∃ v', e = .returned v' ∧ Sl w' v' (limbs (val xs)) ∧ New w.heap.size v' ∧ Kp w w' := by
  unfold maxLen at _hm
  have HAT := Lib.hid ha; have HLT := Lib.hid hl; clear ha hl
  obtain ⟨len, hlen⟩ : ∃ len, len = xs.length := ⟨_, rfl⟩
  rw [← hlen] at hc hsm
  rw [← hlen]
  have HL := Lib.hid hlen; clear hlen
  go_enter Tryz.func68, Tryz.ntmps68
  go_wp2
  go_loop [3] (fun i => ∃ k : Nat, k ≤ len ∧ i = .int .i64 k ∧ ZeroFrom k xs) (fun i => (intOf i).toNat)
  case atStart => exact ⟨len, Nat.le_refl _, rfl, by rw [HL.out]; exact ZeroFrom.all xs⟩
  case round =>
    obtain ⟨k, hk, rfl, hz⟩ := hrel
    have HZ := Lib.hid hz; clear hz
    by_cases h0 : k = 0
    · subst h0
      have hv : val xs = 0 := trim_zero HZ.out
      have HV := Lib.hid hv; clear hv
      cases ao with
      | none =>
        go_wp2
        go_ret
        exact ⟨_, rfl, by rw [HV.out]; exact Sl.nil _, New.nil _, Kp.refl _⟩
      | some a =>
        go_wp2
        go_ret
        exact ⟨_, rfl, by rw [HV.out]; exact Sl.nil _, New.nil _, Kp.refl _⟩
    · obtain ⟨b, off, rfl, hcells⟩ := HAT.out.cells (by have := HL.out; omega)
      have hcell := hcells (k - 1) (by have := HL.out; omega)
      have HCELLS := Lib.hid hcells
      clear hcells
      obtain ⟨z, ez⟩ : ∃ z, z = xs[k - 1]?.getD 0 := ⟨_, rfl⟩
      rw [← ez] at hcell
      have EZ := Lib.hid ez; clear ez
      have hk0 : (0 : Int) < (k : Int) := by omega
      have hkf : ((k : Int) == 0) = false := beq_eq_false_iff_ne.2 (by omega)
      by_cases hz0 : z = 0
      · subst hz0
        go_wp2
        go_round
        case rel => exact ⟨k - 1, by omega, vint (by omega), ZeroFrom.down (by have := HZ.out; rwa [show k - 1 + 1 = k by omega]) EZ.out.symm⟩
        case measure => simp [intOf]; omega
      · have hzf : ((z : Int) == 0) = false := beq_eq_false_iff_ne.2 (by omega)
        have htr := trim_eq HLT.out k (by have := HL.out; omega) HZ.out (.inr (by rw [← EZ.out]; exact hz0))
        have HTR := Lib.hid htr; clear htr
        have L1 : Hid ((xs.take k).length = k) := by show _ = _; rw [List.length_take]; have := HL.out; omega
        go_wp2_with (at_builtin; refine wpList_app rfl (.const (.slice none 0 0)) (.tmp 20) 24 rfl Tryz.underlying24 w.heap.size _ 0 [] rfl (World.ownsRow_nil _ _ _ _) (some ⟨b, off, none⟩) k cap (xs.take k) rfl L1.out (HAT.out.take k) (fun h => nomatch h) (by omega) (Nat.le_refl _) ?_)
        intro v' w1 hown hgr
        rw [← HTR.out] at hown
        have hs1 := sl_of_owns hown (Lt.limbs _) (by rw [HTR.out, List.length_take]; omega)
        have HS := Lib.hid hs1.1; have HN := Lib.hid hs1.2; have HG := Lib.hid (Kp.grown hgr (by simp [Value.ownBlock]))
        clear hs1 hown hgr
        go_wp2
        go_ret
        exact ⟨v', rfl, HS.out, HN.out, HG.out⟩
theorem trim_any {v : Value} {xs : List Nat} {w : World} (hs : Sl w v xs) :
    Calls Tryz.prog 68 #[v] w fun e w' => ∃ v', e = .returned v' ∧ Sl w' v' (limbs (val xs)) ∧ New w.heap.size v' ∧ Kp w w' := by
  obtain ⟨⟨ao, cap, rfl, hcap, hm, ha, hno⟩, hl, hsm⟩ := hs
  exact trim_walk ao cap xs w hcap hm ha hl hsm

-- natural.limited
set_option maxHeartbeats 400000 in
theorem limited_any {v : Value} {xs : List Nat} {w : World} (hs : Sl w v xs) :
    Calls Tryz.prog 63 #[v] w fun e w' =>
      (∃ v', e = .returned (if (limbs (val xs)).length ≤ 128 then .tuple #[v', .int .i64 0] else .tuple #[.slice none 0 0, .int .i64 2]) ∧ Sl w v' (limbs (val xs)) ∧ ∀ B, New B v → New B v') ∧ w = w' := by
  have HS := Lib.hid hs; clear hs
  by_cases h : (limbs (val xs)).length ≤ 128
  · have H := Lib.hid h; clear h
    go_enter Tryz.func63, Tryz.ntmps63
    go_wp2_with fail
    refine (trimmed_any HS.out).mono ?_
    rintro e w' ⟨⟨v', rfl, hs', hn⟩, rfl⟩
    have HS' := Lib.hid hs'; have HN := Lib.hid hn; clear hs' hn
    obtain ⟨ao, cap, hv, _, _, _, _⟩ := HS'.out.ex
    subst hv
    have hh := H.out
    obtain ⟨len, hlen⟩ : ∃ len, len = (limbs (val xs)).length := ⟨_, rfl⟩
    rw [← hlen] at hh
    have HL := Lib.hid hlen
    rw [← hlen]
    clear hlen
    go_wp2
    go_ret2
    exact ⟨⟨_, rfl, by rw [HL.out]; exact HS'.out, by rw [HL.out]; exact HN.out⟩, rfl⟩
  · have H := Lib.hid h; clear h
    go_enter Tryz.func63, Tryz.ntmps63
    go_wp2_with fail
    refine (trimmed_any HS.out).mono ?_
    rintro e w' ⟨⟨v', rfl, hs', hn⟩, rfl⟩
    have HS' := Lib.hid hs'; have HN := Lib.hid hn; clear hs' hn
    obtain ⟨ao, cap, hv, _, _, _, _⟩ := HS'.out.ex
    subst hv
    have hh := H.out
    obtain ⟨len, hlen⟩ : ∃ len, len = (limbs (val xs)).length := ⟨_, rfl⟩
    rw [← hlen] at hh
    have HL := Lib.hid hlen
    rw [← hlen]
    clear hlen
    go_wp2
    go_ret2
    exact ⟨⟨rfl, .slice ao len cap, by rw [HL.out]; exact HS'.out, by rw [HL.out]; exact HN.out⟩, rfl⟩

/-- A slice that the call has just written down. -/
theorem sl_lit {w : World} {e : TypeId} (xs : List Nat) (hl : Lt xs) (hs : xs.length ≤ 1000) : Sl (w.alloc (.cells (U xs).toArray e)) (.slice (some ⟨w.heap.size, 0, none⟩) xs.length xs.length) xs := by
  refine ⟨⟨_, _, rfl, Nat.le_refl _, by unfold maxLen; omega, .inr ⟨w.heap.size, 0, rfl, fun i hi => ?_⟩, fun h => nomatch h⟩, hl, by omega⟩
  rw [Nat.zero_add, cell_of_row _ w.heap.size i _ e (0, 0) (heap_alloc_new w _)]
  simp [U, List.getElem?_eq_getElem hi]
theorem val_two (n : Nat) (_h : n < 18446744073709551616) : val [n % 4294967296, n / 4294967296] = n := by simp only [val]; omega

theorem sl_two (n : Nat) (w : World) (e : TypeId) (h : n < 18446744073709551616) :
    Sl (w.alloc (.cells #[.int .u32 ((n : Int) % 4294967296), .int .u32 ((n : Int) / 4294967296)] e)) (.slice (some ⟨w.heap.size, 0, none⟩) 2 2) [n % 4294967296, n / 4294967296] := by
  have := sl_lit (w := w) (e := e) [n % 4294967296, n / 4294967296] (Lt.cons (by omega) (Lt.cons (by omega) Lt.nil)) (by simp)
  simpa [U] using this
set_option maxHeartbeats 400000 in
theorem of_any (n : Nat) (w : World) (hn : n < 18446744073709551616) :
    Calls Tryz.prog 30 #[.int .u64 n] w fun e w' => ∃ v', e = .returned v' ∧ Sl w' v' (limbs n) ∧ New w.heap.size v' ∧ Kp w w' := by
  have HSL := fun e => Lib.hid (sl_two n w e hn)
  go_enter Tryz.func30, Tryz.ntmps30
  go_wp2_with fail
  refine (trimmed_any (HSL _).out).mono ?_
  rintro e w' ⟨⟨v', rfl, hs', hn'⟩, rfl⟩
  rw [val_two n hn] at hs'
  have HS' := Lib.hid hs'; have HN := Lib.hid (hn' w.heap.size (by intro a l c e; simp only [Value.slice.injEq, Option.some.injEq] at e; rw [← e.1]; exact Nat.le_refl _)); clear hs' hn'
  go_wp2
  go_ret
  exact ⟨v', rfl, HS'.out, HN.out, Kp.alloc (Kp.refl _) _⟩
set_option maxHeartbeats 400000 in
theorem rof_any (n : Nat) (w : World) (hn : n < 18446744073709551616) :
    Calls Tryz.prog 82 #[.int .u64 n] w fun e w' => ∃ v', e = .returned v' ∧ Sl w' v' (limbs n) ∧ New w.heap.size v' ∧ Kp w w' := by
  have HSL := fun e => Lib.hid (sl_two n w e hn)
  go_enter Tryz.func82, Tryz.ntmps82
  go_wp2_with fail
  refine (trim_any (HSL _).out).mono ?_
  rintro e w' ⟨v', rfl, hs', hn', hk⟩
  rw [val_two n hn] at hs'
  have HS' := Lib.hid hs'; have HN := Lib.hid (hn'.mono (show w.heap.size ≤ _ by simp)); have HK := Lib.hid hk; clear hs' hn' hk
  go_wp2
  go_ret
  exact ⟨v', rfl, HS'.out, HN.out, Kp.trans (Kp.alloc (Kp.refl _) _) HK.out⟩

-- testgatemake.SameNat
theorem eq_of_EqFrom {xs ys : List Nat} (hl : xs.length = ys.length) (h : ∀ j : Nat, j < xs.length → xs[j]?.getD 0 = ys[j]?.getD 0) : xs = ys := by
  apply List.ext_getElem hl
  intro i h1 h2
  have := h i h1
  simpa [List.getElem?_eq_getElem h1, List.getElem?_eq_getElem h2] using this
set_option maxHeartbeats 400000 in
theorem same_len (ao bo : Option Addr) (l m ca cb : Nat) (w : World) (hne : l ≠ m) :
    Calls Tryz.prog 48 #[.slice ao l ca, .slice bo m cb] w fun e w' => e = .returned (.bool false) ∧ w = w' := by
  have h : ((l : Int) != m) = true := by rw [bne_iff_ne]; omega
  go_enter Tryz.func48, Tryz.ntmps48
  go_wp2
  go_ret
  exact ⟨rfl, rfl⟩
set_option maxHeartbeats 400000 in
theorem same_walk (ao bo : Option Addr) (l ca cb : Nat) (xs ys : List Nat) (w : World) (hxl : xs.length = l) (hyl : ys.length = l) (hl : l ≤ maxLen) (ha : At w ao xs) (hb : At w bo ys) :
    Calls Tryz.prog 48 #[.slice ao l ca, .slice bo l cb] w fun e w' => e = .returned (.bool (decide (xs = ys))) ∧ Drawn w w' := by
  unfold maxLen at hl
  have HX := Lib.hid hxl; have HY := Lib.hid hyl; have HA := Lib.hid ha; have HB := Lib.hid hb
  clear hxl hyl ha hb
  have h0 : ((l : Int) != l) = false := by simp
  go_enter Tryz.func48, Tryz.ntmps48
  go_wp2
  go_loopw [5] (fun i wr => ∃ k : Nat, k ≤ l ∧ i = .int .i64 k ∧ (∀ j : Nat, j < k → xs[j]?.getD 0 = ys[j]?.getD 0) ∧ Drawn w wr) (fun i _ => l - (intOf i).toNat)
  case atStart => exact ⟨0, by omega, rfl, fun j hj => by omega, 0, rfl⟩
  case round =>
    obtain ⟨k, hk, rfl, heq, n, rfl⟩ := hrel
    have HEQ := Lib.hid heq; clear heq
    by_cases hlt : k < l
    · obtain ⟨b, off, rfl, h1⟩ := HA.out.cells (by have := HX.out; omega)
      obtain ⟨b', off', rfl, h2⟩ := HB.out.cells (by have := HY.out; omega)
      have h1 := h1 k (by have := HX.out; omega)
      have h2 := h2 k (by have := HY.out; omega)
      obtain ⟨x, ex⟩ : ∃ x, x = xs[k]?.getD 0 := ⟨_, rfl⟩
      obtain ⟨y, ey⟩ : ∃ y, y = ys[k]?.getD 0 := ⟨_, rfl⟩
      rw [← ex] at h1
      rw [← ey] at h2
      have EX := Lib.hid ex; have EY := Lib.hid ey
      clear ex ey
      by_cases h : x = y
      · subst h
        go_wp2
        go_quiet (fail)
        go_wp2
        go_roundw
        case rel =>
          refine ⟨k + 1, by omega, vint (by omega), ?_, (by repeat (first | exact Drawn.refl _ | apply Drawn.drew | apply Drawn.one))⟩
          intro t ht
          by_cases e : t = k
          · subst e; rw [← EX.out, ← EY.out]
          · exact HEQ.out t (by omega)
        case measure => simp [intOf]; omega
      · have hne : ((x : Int) != y) = true := by rw [bne_iff_ne]; omega
        go_wp2
        go_quiet (fail)
        go_wp2
        go_ret
        exact ⟨ret_bool (decide_eq_false (fun e => h (by rw [EX.out, EY.out, e]))).symm, (by repeat (first | exact Drawn.refl _ | apply Drawn.drew | apply Drawn.one))⟩
    · have : k = l := by omega
      subst this
      go_wp2
      go_ret
      exact ⟨ret_bool (decide_eq_true (eq_of_EqFrom (by rw [HX.out, HY.out]) (fun j hj => HEQ.out j (by rw [← HX.out]; exact hj)))).symm, (by repeat (first | exact Drawn.refl _ | apply Drawn.drew | apply Drawn.one))⟩
theorem same_any {xs ys : List Nat} {va vb : Value} {w : World} (ha : Sl w va xs) (hb : Sl w vb ys) :
    Calls Tryz.prog 48 #[va, vb] w fun e w' => e = .returned (.bool (decide (xs = ys))) ∧ Drawn w w' := by
  obtain ⟨⟨ao, ca, rfl, hca, hma, ha, _⟩, hxl, _⟩ := ha
  obtain ⟨⟨bo, cb, rfl, hcb, hmb, hb, _⟩, hyl, _⟩ := hb
  by_cases h : xs.length = ys.length
  · rw [← h]
    exact same_walk ao bo xs.length ca cb xs ys w rfl h.symm (by omega) ha hb
  · refine (same_len ao bo xs.length ys.length ca cb w h).mono fun e w' hh => ⟨?_, hh.2 ▸ Drawn.refl _⟩
    rw [hh.1]
    exact ret_bool (decide_eq_false (fun e => h (by rw [e]))).symm

end Go.Proofs.YtdoponlhiidimaaGreatDoor
