/- Plain mathematics of limbs: numbers as lists of digits to the base 2^32, the canonical list of a number, and what comparing, trimming, adding and multiplying do to it. No condition. -/

namespace LimbN

def val : List Nat → Nat
  | [] => 0
  | x :: xs => x + 4294967296 * val xs

def Lt (xs : List Nat) : Prop := ∀ i : Nat, xs[i]?.getD 0 < 4294967296

def limbsF : Nat → Nat → List Nat
  | 0, _ => []
  | f + 1, n => if n = 0 then [] else n % 4294967296 :: limbsF f (n / 4294967296)

/-- The canonical list of a number. -/
def limbs (n : Nat) : List Nat := limbsF n n

theorem limbsF_enough : ∀ (f g n : Nat), n ≤ f → n ≤ g → limbsF f n = limbsF g n := by
  intro f
  induction f with
  | zero => intro g n h1 _; have : n = 0 := by omega
            subst this; cases g <;> simp [limbsF]
  | succ f ih =>
    intro g n h1 h2
    cases g with
    | zero => have : n = 0 := by omega
              subst this; simp [limbsF]
    | succ g =>
      simp only [limbsF]
      by_cases h : n = 0
      · simp [h]
      · rw [if_neg h, if_neg h, ih g (n / 4294967296) (by omega) (by omega)]

theorem limbs_zero : limbs 0 = [] := rfl
theorem limbs_pos {n : Nat} (h : n ≠ 0) : limbs n = n % 4294967296 :: limbs (n / 4294967296) := by
  unfold limbs
  obtain ⟨m, rfl⟩ : ∃ m, n = m + 1 := ⟨n - 1, by omega⟩
  rw [limbsF, if_neg h, limbsF_enough m ((m + 1) / 4294967296) _ (by omega) (by omega)]

theorem val_limbs (n : Nat) : val (limbs n) = n := by
  induction n using Nat.strongRecOn with
  | _ n ih =>
    by_cases h : n = 0
    · subst h; rfl
    · rw [limbs_pos h, val, ih _ (by omega)]; omega

theorem Lt.nil : Lt [] := by intro i; simp
theorem Lt.head {x : Nat} {xs : List Nat} (h : Lt (x :: xs)) : x < 4294967296 := by have := h 0; simpa using this
theorem Lt.tail {x : Nat} {xs : List Nat} (h : Lt (x :: xs)) : Lt xs := by intro i; have := h (i + 1); simpa using this
theorem Lt.cons {x : Nat} {xs : List Nat} (h1 : x < 4294967296) (h : Lt xs) : Lt (x :: xs) := by
  intro i; cases i with
  | zero => simpa using h1
  | succ i => simpa using h i
theorem Lt.limbs (n : Nat) : Lt (limbs n) := by
  induction n using Nat.strongRecOn with
  | _ n ih =>
    by_cases h : n = 0
    · subst h; exact Lt.nil
    · rw [limbs_pos h]; exact Lt.cons (by omega) (ih _ (by omega))
theorem Lt.take {xs : List Nat} (h : Lt xs) (k : Nat) : Lt (xs.take k) := by
  intro i
  rw [List.getElem?_take]
  split
  · exact h i
  · simp
theorem Lt.mem {xs : List Nat} (h : Lt xs) : ∀ x ∈ xs, x < 4294967296 := by
  intro x hx
  obtain ⟨i, hi, rfl⟩ := List.mem_iff_getElem.1 hx
  have := h i
  simpa [List.getElem?_eq_getElem hi] using this

theorem val_append (xs ys : List Nat) : val (xs ++ ys) = val xs + 4294967296 ^ xs.length * val ys := by
  induction xs with
  | nil => simp [val]
  | cons x xs ih => simp only [List.cons_append, val, ih, List.length_cons, Nat.pow_succ]
                    rw [Nat.mul_add, Nat.mul_comm (4294967296 ^ xs.length) 4294967296, Nat.mul_assoc]; omega
theorem val_lt {xs : List Nat} (h : Lt xs) : val xs < 4294967296 ^ xs.length := by
  induction xs with
  | nil => simp [val]
  | cons x xs ih =>
    have h1 := h.head
    have h2 := ih h.tail
    simp only [val, List.length_cons, Nat.pow_succ]
    omega
theorem val_eq_zero {xs : List Nat} : val xs = 0 ↔ ∀ i : Nat, xs[i]?.getD 0 = 0 := by
  induction xs with
  | nil => simp [val]
  | cons x xs ih =>
    simp only [val]
    constructor
    · intro h i
      cases i with
      | zero => simp; omega
      | succ i => simpa using ih.1 (by omega) i
    · intro h
      have h0 := h 0
      have h1 := ih.2 (fun i => by simpa using h (i + 1))
      simp at h0
      omega

/-- A list that ends in no zero is the canonical one of its value. -/
theorem canon {xs : List Nat} (h : Lt xs) (he : xs = [] ∨ xs[xs.length - 1]?.getD 0 ≠ 0) : limbs (val xs) = xs := by
  induction xs with
  | nil => rfl
  | cons x xs ih =>
    have hx := h.head
    have hne : val (x :: xs) ≠ 0 := by
      intro hz
      rcases he with he | he
      · simp at he
      · exact he (val_eq_zero.1 hz _)
    rw [limbs_pos hne, val]
    have e1 : (x + 4294967296 * val xs) % 4294967296 = x := by omega
    have e2 : (x + 4294967296 * val xs) / 4294967296 = val xs := by omega
    rw [e1, e2, ih h.tail]
    cases xs with
    | nil => exact .inl rfl
    | cons y ys =>
      right
      rcases he with he | he
      · simp at he
      · simpa using he
theorem limbs_last {n : Nat} (h : n ≠ 0) : (limbs n)[(limbs n).length - 1]?.getD 0 ≠ 0 := by
  induction n using Nat.strongRecOn with
  | _ n ih =>
    rw [limbs_pos h]
    by_cases h2 : n / 4294967296 = 0
    · rw [h2]; simp [limbs_zero]; omega
    · have h3 := ih _ (by omega) h2
      have h4 : limbs (n / 4294967296) ≠ [] := by rw [limbs_pos h2]; simp
      obtain ⟨y, ys, hy⟩ := List.exists_cons_of_ne_nil h4
      rw [hy] at h3 ⊢
      simpa using h3
theorem limbs_ne {n : Nat} (h : n ≠ 0) : limbs n ≠ [] := by rw [limbs_pos h]; simp
theorem limbs_len_pos {n : Nat} : 0 < (limbs n).length ↔ n ≠ 0 := by
  constructor
  · intro h hz; subst hz; simp [limbs_zero] at h
  · intro h; rw [limbs_pos h]; simp
theorem limbs_len_zero {n : Nat} : (limbs n).length = 0 ↔ n = 0 := by
  constructor
  · intro h; have h2 := limbs_len_pos (n := n); rcases Nat.eq_zero_or_pos n with h3 | h3
    · exact h3
    · have := h2.2 (by omega); omega
  · intro h; subst h; simp [limbs_zero]
theorem limbs_len_le {n k : Nat} : (limbs n).length ≤ k ↔ n < 4294967296 ^ k := by
  induction k generalizing n with
  | zero => have := limbs_len_zero (n := n); simp only [Nat.le_zero_eq, Nat.pow_zero, this]; omega
  | succ k ih =>
    by_cases h : n = 0
    · subst h; simp [limbs_zero]; exact Nat.pow_pos (by omega)
    · rw [limbs_pos h, List.length_cons, Nat.add_le_add_iff_right, ih, Nat.pow_succ, Nat.div_lt_iff_lt_mul (by omega)]
/-- The value of a list all of whose digits from k on are 0 is that of its first k digits. -/
theorem val_take {xs : List Nat} (k : Nat) (h : ∀ i : Nat, k ≤ i → xs[i]?.getD 0 = 0) : val (xs.take k) = val xs := by
  induction xs generalizing k with
  | nil => simp
  | cons x xs ih =>
    cases k with
    | zero => rw [List.take_zero, val, (val_eq_zero (xs := x :: xs)).2 (fun i => h i (Nat.zero_le _))]
    | succ k => rw [List.take_succ_cons, val, val, ih k (fun i hi => by have := h (i + 1) (by omega); simpa using this)]
/-- Trimming: the first k digits, if the others are 0 and the last of them is not. -/
theorem trim_eq {xs : List Nat} (hl : Lt xs) (k : Nat) (hk : k ≤ xs.length) (h : ∀ i : Nat, k ≤ i → xs[i]?.getD 0 = 0) (he : k = 0 ∨ xs[k - 1]?.getD 0 ≠ 0) :
    limbs (val xs) = xs.take k := by
  rw [← val_take k h]
  apply canon (hl.take k)
  rcases he with rfl | he
  · simp
  · right
    rw [List.length_take, Nat.min_eq_left hk, List.getElem?_take]
    split
    · exact he
    · intro _
      have : k = 0 := by omega
      subst this
      have h0 : xs.length = 0 ∨ 0 < xs.length := by omega
      simp at *
      exact he (h 0)
theorem trim_len {xs : List Nat} (hl : Lt xs) (k : Nat) (hk : k ≤ xs.length) (h : ∀ i : Nat, k ≤ i → xs[i]?.getD 0 = 0) (he : k = 0 ∨ xs[k - 1]?.getD 0 ≠ 0) :
    (limbs (val xs)).length = k := by
  rw [trim_eq hl k hk h he, List.length_take]; omega

/-- Well-formed: at most 128 limbs, and the last one is not 0. -/
def wf (xs : List Nat) : Bool := decide (xs.length = 0) || (decide (xs.length ≤ 128) && !(xs[xs.length - 1]?.getD 0 == 0))
theorem wf_canon {xs : List Nat} (h : Lt xs) (hw : wf xs = true) : limbs (val xs) = xs ∧ xs.length ≤ 128 := by
  unfold wf at hw
  simp only [Bool.or_eq_true, Bool.and_eq_true, decide_eq_true_eq, Bool.not_eq_true', beq_eq_false_iff_ne] at hw
  refine ⟨canon h ?_, by omega⟩
  rcases hw with hw | hw
  · left; exact List.eq_nil_of_length_eq_zero hw
  · right; exact hw.2
theorem wf_limbs {n : Nat} (h : (limbs n).length ≤ 128) : wf (limbs n) = true := by
  unfold wf
  by_cases hn : n = 0
  · subst hn; simp [limbs_zero]
  · simp [h, limbs_last hn]
/-- The value of the k digits from place o on. -/
def seg (zs : List Nat) (o k : Nat) : Nat := val ((zs.drop o).take k)
theorem val_take_succ (xs : List Nat) (k : Nat) : val (xs.take (k + 1)) = val (xs.take k) + 4294967296 ^ k * xs[k]?.getD 0 := by
  induction xs generalizing k with
  | nil => simp [val]
  | cons x xs ih =>
    cases k with
    | zero => simp [val]
    | succ k =>
      simp only [List.take_succ_cons, val, ih k, Nat.pow_succ, List.getElem?_cons_succ]
      rw [Nat.mul_add, Nat.mul_comm (4294967296 ^ k) 4294967296, Nat.mul_assoc]; omega
theorem seg_zero (zs : List Nat) (o : Nat) : seg zs o 0 = 0 := by simp [seg, val]
theorem seg_succ (zs : List Nat) (o k : Nat) : seg zs o (k + 1) = seg zs o k + 4294967296 ^ k * zs[o + k]?.getD 0 := by
  unfold seg; rw [val_take_succ, List.getElem?_drop]
theorem seg_congr {zs zs' : List Nat} {o : Nat} : ∀ k, (∀ i : Nat, o ≤ i → i < o + k → zs[i]?.getD 0 = zs'[i]?.getD 0) → seg zs o k = seg zs' o k := by
  intro k
  induction k with
  | zero => intro _; rw [seg_zero, seg_zero]
  | succ k ih => intro h; rw [seg_succ, seg_succ, ih (fun i h1 h2 => h i h1 (by omega)), h (o + k) (by omega) (by omega)]
theorem seg_all (zs : List Nat) (k : Nat) (h : zs.length ≤ k) : seg zs 0 k = val zs := by simp [seg, List.take_of_length_le h]
theorem getD_set (zs : List Nat) (i j d : Nat) (hi : i < zs.length) : (zs.set i d)[j]?.getD 0 = if j = i then d else zs[j]?.getD 0 := by
  rw [List.getElem?_set]
  by_cases h : i = j
  · subst h; simp [hi]
  · simp [h, Ne.symm h]
theorem Lt.set {zs : List Nat} (h : Lt zs) (i d : Nat) (hd : d < 4294967296) : Lt (zs.set i d) := by
  intro j
  by_cases hi : i < zs.length
  · rw [getD_set zs i j d hi]
    split
    · exact hd
    · exact h j
  · rw [List.set_eq_of_length_le (by omega)]; exact h j
theorem Lt.replicate (n : Nat) : Lt (List.replicate n 0) := by
  intro i
  rw [List.getElem?_replicate]
  split <;> simp
theorem Lt.drop {xs : List Nat} (h : Lt xs) (k : Nat) : Lt (xs.drop k) := by
  intro i; rw [List.getElem?_drop]; exact h _
theorem Lt.append {xs ys : List Nat} (h : Lt xs) (k : Lt ys) : Lt (xs ++ ys) := by
  intro i
  rw [List.getElem?_append]
  split
  · exact h i
  · exact k _
/-- One more digit of a sum: s = c + z + y is written as digit and carry. -/
theorem carry_step (X A Y P c t : Nat) (h : X + P * c = A + Y) (s : Nat) (hs : s = c + t) : (X + P * (s % 4294967296)) + P * 4294967296 * (s / 4294967296) = A + Y + P * t := by
  have e : P * s = P * (s % 4294967296) + P * 4294967296 * (s / 4294967296) := by
    rw [Nat.mul_assoc, ← Nat.mul_add]
    congr 1
    omega
  have e2 : P * s = P * c + P * t := by rw [hs, Nat.mul_add]
  omega
/-- What a loop of additions has done to the row zs after k digits from place o on. -/
structure AddRel (zs : List Nat) (o k c : Nat) (Y : Nat) (zr : List Nat) : Prop where
  len : zr.length = zs.length
  lt : Lt zr
  other : ∀ i : Nat, i < o ∨ o + k ≤ i → zr[i]?.getD 0 = zs[i]?.getD 0
  sum : seg zr o k + 4294967296 ^ k * c = seg zs o k + Y
theorem AddRel.start (zs : List Nat) (o : Nat) (h : Lt zs) : AddRel zs o 0 0 0 zs := ⟨rfl, h, fun _ _ => rfl, by simp [seg_zero]⟩
theorem AddRel.step {zs zr : List Nat} {o k c Y : Nat} (h : AddRel zs o k c Y zr) (hk : o + k < zs.length) (y s : Nat) (hs : s = c + (zr[o + k]?.getD 0 + y)) :
    AddRel zs o (k + 1) (s / 4294967296) (Y + 4294967296 ^ k * y) (zr.set (o + k) (s % 4294967296)) := by
  have hl := h.len
  refine ⟨by simpa using hl, h.lt.set _ _ (by omega), ?_, ?_⟩
  · intro i hi
    rw [getD_set _ _ _ _ (by omega), if_neg (by omega)]
    exact h.other i (by omega)
  · have e1 : seg (zr.set (o + k) (s % 4294967296)) o k = seg zr o k := seg_congr k (fun i h1 h2 => by rw [getD_set _ _ _ _ (by omega), if_neg (by omega)])
    rw [seg_succ, seg_succ, e1, getD_set _ _ _ _ (by omega), if_pos rfl, Nat.pow_succ]
    have e2 := h.other (o + k) (by omega)
    have e3 := carry_step (seg zr o k) (seg zs o k) Y (4294967296 ^ k) c (zr[o + k]?.getD 0 + y) h.sum s hs
    rw [e3, e2, Nat.mul_add]
    omega
theorem mul_small {y f : Nat} (hy : y < 4294967296) (hf : f < 4294967296) : y * f ≤ 18446744065119617025 := by
  have := Nat.mul_le_mul (show y ≤ 4294967295 by omega) (show f ≤ 4294967295 by omega)
  omega
/-- What a loop of subtractions of f times a number has done to the row zs after k digits from place o on. -/
structure SubRel (zs : List Nat) (o k c f : Nat) (Y : Nat) (zr : List Nat) : Prop where
  len : zr.length = zs.length
  lt : Lt zr
  other : ∀ i : Nat, i < o ∨ o + k ≤ i → zr[i]?.getD 0 = zs[i]?.getD 0
  sum : seg zr o k + f * Y = seg zs o k + 4294967296 ^ k * c
theorem SubRel.start (zs : List Nat) (o f : Nat) (h : Lt zs) : SubRel zs o 0 0 f 0 zs := ⟨rfl, h, fun _ _ => rfl, by simp [seg_zero]⟩
theorem SubRel.step {zs zr : List Nat} {o k c f Y : Nat} (h : SubRel zs o k c f Y zr) (hk : o + k < zs.length) (y d c2 : Nat) (hd : d < 4294967296) (hs : d + (c + f * y) = zr[o + k]?.getD 0 + 4294967296 * c2) :
    SubRel zs o (k + 1) c2 f (Y + 4294967296 ^ k * y) (zr.set (o + k) d) := by
  have hl := h.len
  refine ⟨by simpa using hl, h.lt.set _ _ hd, ?_, ?_⟩
  · intro i hi
    rw [getD_set _ _ _ _ (by omega), if_neg (by omega)]
    exact h.other i (by omega)
  · have e1 : seg (zr.set (o + k) d) o k = seg zr o k := seg_congr k (fun i h1 h2 => by rw [getD_set _ _ _ _ (by omega), if_neg (by omega)])
    rw [seg_succ, seg_succ, e1, getD_set _ _ _ _ (by omega), if_pos rfl, Nat.pow_succ]
    have e2 := h.other (o + k) (by omega)
    rw [e2] at hs
    have e3 := h.sum
    have e4 : 4294967296 ^ k * (d + (c + f * y)) = 4294967296 ^ k * (zs[o + k]?.getD 0 + 4294967296 * c2) := by rw [hs]
    have e5 : f * (Y + 4294967296 ^ k * y) = f * Y + 4294967296 ^ k * (f * y) := by rw [Nat.mul_add, Nat.mul_left_comm]
    rw [Nat.mul_add, Nat.mul_add, Nat.mul_add, ← Nat.mul_assoc (4294967296 ^ k) 4294967296 c2] at e4
    omega
theorem val_zeros (n : Nat) : val (List.replicate n 0) = 0 := val_eq_zero.2 (fun i => by rw [List.getElem?_replicate]; split <;> simp)
theorem val_pad (xs : List Nat) (n : Nat) : val (xs ++ List.replicate n 0) = val xs := by rw [val_append, val_zeros]; simp
theorem pad_drop (xs : List Nat) (n : Nat) : xs ++ (List.replicate n 0).drop xs.length = xs ++ List.replicate (n - xs.length) 0 := by rw [List.drop_replicate]
/-- The sum of two numbers of fewer than n digits has no carry. -/
theorem add_whole {zs zr : List Nat} {n c Y : Nat} (h : AddRel zs 0 n c Y zr) (hz : zs.length = n) (hs : val zs + Y < 4294967296 ^ n) : val zr = val zs + Y := by
  have e := h.sum
  rw [seg_all zr n (by rw [h.len, hz]; exact Nat.le_refl _), seg_all zs n (by omega)] at e
  have hc : c = 0 := by
    rcases Nat.eq_zero_or_pos c with h0 | h0
    · exact h0
    · have := Nat.le_mul_of_pos_right (4294967296 ^ n) h0
      omega
  subst hc
  simpa using e
theorem sub_whole {zs zr : List Nat} {n c f Y : Nat} (h : SubRel zs 0 n c f Y zr) (hz : zs.length = n) (hs : f * Y ≤ val zs) : val zr = val zs - f * Y := by
  have e := h.sum
  have hl : val zr < 4294967296 ^ n := by have := val_lt h.lt; rwa [h.len, hz] at this
  rw [seg_all zr n (by rw [h.len, hz]; exact Nat.le_refl _), seg_all zs n (by omega)] at e
  have hc : c = 0 := by
    rcases Nat.eq_zero_or_pos c with h0 | h0
    · exact h0
    · have := Nat.le_mul_of_pos_right (4294967296 ^ n) h0
      omega
  subst hc
  omega
theorem pow_max {m n k : Nat} (h : m ≤ k) (hn : n < 4294967296 ^ m) : n < 4294967296 ^ k := Nat.lt_of_lt_of_le hn (Nat.pow_le_pow_right (by omega) h)
theorem sum_lt {xs ys : List Nat} (hx : Lt xs) (hy : Lt ys) (m : Nat) (h1 : xs.length ≤ m) (h2 : ys.length ≤ m) : val xs + val ys < 4294967296 ^ (m + 1) := by
  have a1 := pow_max h1 (val_lt hx)
  have a2 := pow_max h2 (val_lt hy)
  rw [Nat.pow_succ]
  omega
/-- A list in three parts. -/
theorem val_split (zs : List Nat) (o k : Nat) (h : o + k ≤ zs.length) : val zs = seg zs 0 o + 4294967296 ^ o * seg zs o k + 4294967296 ^ (o + k) * val (zs.drop (o + k)) := by
  have h1 : val zs = val (zs.take o) + 4294967296 ^ o * val (zs.drop o) := by
    have := val_append (zs.take o) (zs.drop o)
    rwa [List.take_append_drop, List.length_take, Nat.min_eq_left (by omega)] at this
  have h2 : val (zs.drop o) = val ((zs.drop o).take k) + 4294967296 ^ k * val ((zs.drop o).drop k) := by
    have := val_append ((zs.drop o).take k) ((zs.drop o).drop k)
    rwa [List.take_append_drop, List.length_take, List.length_drop, Nat.min_eq_left (by omega)] at this
  rw [List.drop_drop] at h2
  unfold seg
  rw [List.drop_zero, h1, h2, Nat.mul_add, Nat.pow_add, ← Nat.mul_assoc]
  omega
theorem val_drop_congr {zs zr : List Nat} {k : Nat} (hl : zr.length = zs.length) (h : ∀ i : Nat, k ≤ i → zr[i]?.getD 0 = zs[i]?.getD 0) : val (zr.drop k) = val (zs.drop k) := by
  have : zr.drop k = zs.drop k := by
    apply List.ext_getElem (by simp [hl])
    intro i h1 h2
    have := h (k + i) (by omega)
    rw [List.length_drop] at h1 h2
    simpa [List.getElem?_eq_getElem (show k + i < zr.length by omega), List.getElem?_eq_getElem (show k + i < zs.length by omega)] using this
  rw [this]
/-- Only the k digits from o on have changed, by as much as is said: so has the value. -/
theorem val_change {zs zr : List Nat} {o k D : Nat} (h : o + k ≤ zs.length) (hl : zr.length = zs.length) (ho : ∀ i : Nat, i < o ∨ o + k ≤ i → zr[i]?.getD 0 = zs[i]?.getD 0) (hs : seg zr o k = seg zs o k + D) :
    val zr = val zs + 4294967296 ^ o * D := by
  have e1 := val_split zs o k h
  have e2 := val_split zr o k (by omega)
  have e3 : seg zr 0 o = seg zs 0 o := seg_congr o (fun i _ h2 => ho i (by omega))
  have e4 := val_drop_congr (k := o + k) hl (fun i hi => ho i (by omega))
  rw [e3, e4, hs, Nat.mul_add] at e2
  omega
/-- A row of products: k digits and the carry behind them. -/
theorem mul_row {zs zr : List Nat} {o k c P : Nat} (h : AddRel zs o k c P zr) (hk : o + k < zs.length) (h0 : zs[o + k]?.getD 0 = 0) (hc : c < 4294967296) :
    Lt (zr.set (o + k) c) ∧ (zr.set (o + k) c).length = zs.length ∧ (∀ i : Nat, i < o ∨ o + (k + 1) ≤ i → (zr.set (o + k) c)[i]?.getD 0 = zs[i]?.getD 0) ∧ val (zr.set (o + k) c) = val zs + 4294967296 ^ o * P := by
  have hl := h.len
  have ho : ∀ i : Nat, i < o ∨ o + (k + 1) ≤ i → (zr.set (o + k) c)[i]?.getD 0 = zs[i]?.getD 0 := by
    intro i hi
    rw [getD_set _ _ _ _ (by omega), if_neg (by omega)]
    exact h.other i (by omega)
  have hlen : (zr.set (o + k) c).length = zs.length := by simpa using hl
  refine ⟨h.lt.set _ _ hc, hlen, ho, ?_⟩
  refine val_change (k := k + 1) (by omega) hlen ho ?_
  have e1 : seg (zr.set (o + k) c) o k = seg zr o k := seg_congr k (fun i h1 h2 => by rw [getD_set _ _ _ _ (by omega), if_neg (by omega)])
  rw [seg_succ, seg_succ, e1, getD_set _ _ _ _ (by omega), if_pos rfl, h0]
  have := h.sum
  omega
/-- The row of 256 digits after k rows of products. -/
structure MulRel (xs ys : List Nat) (k : Nat) (zr : List Nat) : Prop where
  len : zr.length = 256
  lt : Lt zr
  zero : ∀ i : Nat, k + ys.length ≤ i → zr[i]?.getD 0 = 0
  sum : val zr = val (xs.take k) * val ys
theorem MulRel.start (xs ys : List Nat) : MulRel xs ys 0 (List.replicate 256 0) :=
  ⟨List.length_replicate, Lt.replicate _, fun i _ => by rw [List.getElem?_replicate]; split <;> simp, by rw [val_zeros]; simp [val]⟩
theorem MulRel.step {xs ys zs zr : List Nat} {k c : Nat} (h : MulRel xs ys k zs) (hk : k + ys.length < 256) (hc : c < 4294967296) (ha : AddRel zs k ys.length c (xs[k]?.getD 0 * val ys) zr) : MulRel xs ys (k + 1) (zr.set (k + ys.length) c) := by
  obtain ⟨h1, h2, h3, h4⟩ := mul_row ha (by rw [h.len]; exact hk) (h.zero _ (Nat.le_refl _)) hc
  refine ⟨h2.trans h.len, h1, fun i hi => ?_, ?_⟩
  · rw [h3 i (by omega)]; exact h.zero i (by omega)
  · rw [h4, h.sum, val_take_succ, Nat.add_mul, Nat.mul_assoc]
theorem plus_step {xs ys zs : List Nat} {k c x y : Nat} (s : Nat) (hl : zs.length = k) (h : val zs + 4294967296 ^ k * c = val (xs.take k) + val (ys.take k)) (hx : x = xs[k]?.getD 0) (hy : y = ys[k]?.getD 0) (hs : s = c + (x + y)) :
    val (zs ++ [s % 4294967296]) + 4294967296 ^ (k + 1) * (s / 4294967296) = val (xs.take (k + 1)) + val (ys.take (k + 1)) := by
  have e := carry_step (val zs) (val (xs.take k)) (val (ys.take k)) (4294967296 ^ k) c (x + y) h s hs
  rw [val_append, hl, val_take_succ, val_take_succ, ← hx, ← hy, Nat.pow_succ, show val [s % 4294967296] = s % 4294967296 by simp [val], e, Nat.mul_add]
  omega
theorem minus_step {xs ys zs : List Nat} {k c x y d c2 : Nat} (hl : zs.length = k) (h : val zs + val (ys.take k) = val (xs.take k) + 4294967296 ^ k * c) (hx : x = xs[k]?.getD 0) (hy : y = ys[k]?.getD 0) (hs : d + (c + y) = x + 4294967296 * c2) :
    val (zs ++ [d]) + val (ys.take (k + 1)) = val (xs.take (k + 1)) + 4294967296 ^ (k + 1) * c2 := by
  have e4 : 4294967296 ^ k * (d + (c + y)) = 4294967296 ^ k * (x + 4294967296 * c2) := by rw [hs]
  rw [Nat.mul_add, Nat.mul_add, Nat.mul_add, ← Nat.mul_assoc (4294967296 ^ k) 4294967296 c2] at e4
  rw [val_append, hl, val_take_succ, val_take_succ, ← hx, ← hy, Nat.pow_succ, show val [d] = d by simp [val]]
  omega
theorem minus_end {xs ys zs : List Nat} {n c : Nat} (hz : Lt zs) (hl : zs.length = n) (h : val zs + val ys = val xs + 4294967296 ^ n * c) (hle : val ys ≤ val xs) : val zs = val xs - val ys := by
  have h1 := val_lt hz
  rw [hl] at h1
  have hc : c = 0 := by
    rcases Nat.eq_zero_or_pos c with h0 | h0
    · exact h0
    · have := Nat.le_mul_of_pos_right (4294967296 ^ n) h0
      omega
  subst hc
  omega
/-- A row of n digits after k rows of products, carries and all. -/
structure TimesRel (xs ys : List Nat) (n k : Nat) (zr : List Nat) : Prop where
  len : zr.length = n
  lt : Lt zr
  zero : ∀ i : Nat, k + ys.length ≤ i → zr[i]?.getD 0 = 0
  sum : val zr = val (xs.take k) * val ys
theorem TimesRel.start (xs ys : List Nat) (n : Nat) : TimesRel xs ys n 0 (List.replicate n 0) :=
  ⟨List.length_replicate, Lt.replicate _, fun i _ => by rw [List.getElem?_replicate]; split <;> simp, by rw [val_zeros]; simp [val]⟩
theorem TimesRel.step {xs ys zs zr : List Nat} {n k m : Nat} (h : TimesRel xs ys n k zs) (hm : m ≤ ys.length + 1) (hk : k + m ≤ n) (ha : AddRel zs k m 0 (xs[k]?.getD 0 * val ys) zr) : TimesRel xs ys n (k + 1) zr := by
  refine ⟨ha.len.trans h.len, ha.lt, fun i hi => ?_, ?_⟩
  · rw [ha.other i (by omega)]; exact h.zero i (by omega)
  · rw [val_change (by rw [h.len]; exact hk) ha.len ha.other (by simpa using ha.sum), h.sum, val_take_succ, Nat.add_mul, Nat.mul_assoc]
theorem val_drop {xs : List Nat} {m : Nat} (h : m < xs.length) : val (xs.drop m) = xs[m]?.getD 0 + 4294967296 * val (xs.drop (m + 1)) := by
  rw [List.drop_eq_getElem_cons h, val]; simp [List.getElem?_eq_getElem h]
theorem div_step {V d Q R x s : Nat} (hQ : Q = V / d) (hR : R = V % d) (hs : s = x + 4294967296 * R) : (x + 4294967296 * V) / d = s / d + 4294967296 * Q ∧ (x + 4294967296 * V) % d = s % d := by
  subst hQ hR hs
  have e : x + 4294967296 * V = (x + 4294967296 * (V % d)) + d * (4294967296 * (V / d)) := by
    have h := Nat.div_add_mod V d
    rw [Nat.mul_left_comm]
    omega
  rcases Nat.eq_zero_or_pos d with h0 | h0
  · subst h0; simp
  · rw [e, Nat.add_mul_div_left _ _ h0, Nat.add_mul_mod_self_left]
    exact ⟨rfl, rfl⟩
theorem drop_set {zs : List Nat} {m d : Nat} (h : m < zs.length) : val ((zs.set m d).drop m) = d + 4294967296 * val (zs.drop (m + 1)) := by
  rw [val_drop (by simpa using h), getD_set _ _ _ _ h, if_pos rfl]
  congr 2
  rw [List.drop_set, if_pos (by omega)]
/-- The row of quotients after the digits from m on have been divided. -/
structure DivRel (xs : List Nat) (d m : Nat) (zr : List Nat) (r : Nat) : Prop where
  len : zr.length = xs.length
  lt : Lt zr
  quo : val (zr.drop m) = val (xs.drop m) / d
  rem : r = val (xs.drop m) % d
theorem DivRel.start (xs : List Nat) (d : Nat) : DivRel xs d xs.length (List.replicate xs.length 0) 0 :=
  ⟨by simp, Lt.replicate _, by simp [val], by simp [val]⟩
theorem DivRel.step {xs zr : List Nat} {d m r : Nat} (h : DivRel xs d (m + 1) zr r) (hd : 0 < d) (hm : m < xs.length) (hx : xs[m]?.getD 0 < 4294967296) (s : Nat) (hs : s = xs[m]?.getD 0 + 4294967296 * r) :
    s / d < 4294967296 ∧ DivRel xs d m (zr.set m (s / d)) (s % d) := by
  have hr : r < d := by rw [h.rem]; exact Nat.mod_lt _ hd
  have hb : s / d < 4294967296 := by
    rw [Nat.div_lt_iff_lt_mul hd]
    have h1 : 4294967296 * (r + 1) ≤ 4294967296 * d := Nat.mul_le_mul_left _ hr
    omega
  obtain ⟨e1, e2⟩ := div_step h.quo h.rem hs
  refine ⟨hb, by simpa using h.len, h.lt.set _ _ hb, ?_, ?_⟩
  · rw [drop_set (by rw [h.len]; exact hm), val_drop hm, e1]
  · rw [val_drop hm, e2]
end LimbN
