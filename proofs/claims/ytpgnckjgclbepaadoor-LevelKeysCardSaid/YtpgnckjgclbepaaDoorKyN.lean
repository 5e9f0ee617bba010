/- Keys: their order, what is well-formed, their sets, their levels. Plain mathematics. No condition. -/
import Derived.Test.YtpgnckjgclbepaaDoorRvO
namespace Go.Proofs.YtpgnckjgclbepaaDoor
namespace KeyN
open WireN LexN RevN
set_option linter.unusedVariables false
set_option linter.unusedSimpArgs false

/-- A key: its kind and its two names. -/
abbrev Ky := Int × List Nat × List Nat
/-- The order of keys. -/
def lk (x y : Ky) : Bool := decide (x.1 < y.1) || (decide (x.1 = y.1) && (lss x.2.1 y.2.1 || (decide (x.2.1 = y.2.1) && lss x.2.2 y.2.2)))
theorem lk_iff (x y : Ky) : lk x y = true ↔ x.1 < y.1 ∨ (x.1 = y.1 ∧ (lss x.2.1 y.2.1 = true ∨ (x.2.1 = y.2.1 ∧ lss x.2.2 y.2.2 = true))) := by
  unfold lk
  simp only [Bool.or_eq_true, Bool.and_eq_true, decide_eq_true_eq]
theorem lk_self (x : Ky) : lk x x = false := by
  rw [Bool.eq_false_iff]
  intro h
  rcases (lk_iff x x).1 h with h | ⟨_, h | ⟨_, h⟩⟩
  · omega
  · rw [lss_self] at h; cases h
  · rw [lss_self] at h; cases h
theorem lk_trans {x y z : Ky} (h : lk x y = true) (k : lk y z = true) : lk x z = true := by
  rw [lk_iff] at h k ⊢
  rcases h with h | ⟨h1, h⟩
  · rcases k with k | ⟨k1, k⟩
    · left; omega
    · left; omega
  · rcases k with k | ⟨k1, k⟩
    · left; omega
    · right
      refine ⟨by omega, ?_⟩
      rcases h with h | ⟨h2, h⟩
      · rcases k with k | ⟨k2, k⟩
        · left; exact lss_trans h k
        · left; rw [← k2]; exact h
      · rcases k with k | ⟨k2, k⟩
        · left; rw [h2]; exact k
        · right; exact ⟨h2.trans k2, lss_trans h k⟩
theorem lk_total {x y : Ky} (h : lk x y = false) (hne : x ≠ y) : lk y x = true := by
  rw [Bool.eq_false_iff] at h
  rw [lk_iff]
  have h' : ¬ (x.1 < y.1 ∨ (x.1 = y.1 ∧ (lss x.2.1 y.2.1 = true ∨ (x.2.1 = y.2.1 ∧ lss x.2.2 y.2.2 = true)))) := fun e => h ((lk_iff x y).2 e)
  by_cases h1 : y.1 < x.1
  · left; exact h1
  · right
    have he : x.1 = y.1 := by
      by_cases h2 : x.1 < y.1
      · exact absurd (Or.inl h2) h'
      · omega
    refine ⟨he.symm, ?_⟩
    by_cases h2 : x.2.1 = y.2.1
    · right
      refine ⟨h2.symm, ?_⟩
      refine lss_total ?_ ?_
      · rw [Bool.eq_false_iff]; intro e; exact h' (.inr ⟨he, .inr ⟨h2, e⟩⟩)
      · intro e; exact hne (Prod.ext he (Prod.ext h2 e))
    · left
      refine lss_total ?_ h2
      rw [Bool.eq_false_iff]; intro e; exact h' (.inr ⟨he, .inl e⟩)
theorem lk_asymm {x y : Ky} (h : lk x y = true) : lk y x = false := by
  rw [Bool.eq_false_iff]
  intro k
  have := lk_trans h k
  rw [lk_self] at this
  cases this
theorem lk_ne {x y : Ky} (h : lk x y = true) : x ≠ y := fun e => by rw [e, lk_self] at h; cases h
/-- What Compare answers. -/
def cpk (x y : Ky) : Int := if lk x y = true then -1 else if lk y x = true then 1 else 0
theorem cpk_lt (x y : Ky) : decide (cpk x y < 0) = lk x y := by
  unfold cpk
  by_cases h : lk x y = true
  · rw [if_pos h, h]; rfl
  · rw [if_neg h]
    have h : lk x y = false := by simpa using h
    rw [h]
    split <;> rfl
/-- Ascending, each once. -/
def Asc (l : List Ky) : Prop := l.Pairwise fun x y => lk x y = true
/-- A key is put into a set. -/
def insK : List Ky → Ky → List Ky
  | [], k => [k]
  | x :: l, k => if lk x k = true then x :: insK l k else if x = k then x :: l else k :: x :: l
theorem mem_ins {y k : Ky} : ∀ {l : List Ky}, y ∈ insK l k ↔ y ∈ l ∨ y = k
  | [] => by simp [insK]
  | x :: l => by
    unfold insK
    split
    · simp only [List.mem_cons, mem_ins (l := l), or_assoc]
    · split
      · rename_i h
        subst h
        simp only [List.mem_cons]
        constructor
        · intro h; exact .inl h
        · rintro (h | h)
          · exact h
          · exact .inl h
      · simp only [List.mem_cons]
        constructor
        · rintro (h | h | h)
          · exact .inr h
          · exact .inl (.inl h)
          · exact .inl (.inr h)
        · rintro ((h | h) | h)
          · exact .inr (.inl h)
          · exact .inr (.inr h)
          · exact .inl h
theorem Asc.ins {k : Ky} : ∀ {l : List Ky}, Asc l → Asc (insK l k)
  | [], _ => by simp [insK, Asc]
  | x :: l, h => by
    have h1 := (List.pairwise_cons.1 h).1
    have h2 : Asc l := (List.pairwise_cons.1 h).2
    unfold insK
    split
    · rename_i hx
      refine List.pairwise_cons.2 ⟨fun y hy => ?_, Asc.ins h2⟩
      rcases mem_ins.1 hy with hy | rfl
      · exact h1 y hy
      · exact hx
    · split
      · exact h
      · rename_i hx hne
        have hk : lk k x = true := lk_total (by simpa using hx) hne
        refine List.pairwise_cons.2 ⟨fun y hy => ?_, h⟩
        rcases List.mem_cons.1 hy with rfl | hy
        · exact hk
        · exact lk_trans hk (h1 y hy)
/-- The set of a list. -/
def setK (ks : List Ky) : List Ky := ks.foldl insK []
theorem foldl_ins : ∀ (ks l : List Ky), Asc l → Asc (ks.foldl insK l) ∧ ∀ y, y ∈ ks.foldl insK l ↔ y ∈ l ∨ y ∈ ks
  | [], l, h => ⟨h, fun y => by simp⟩
  | k :: ks, l, h => by
    have := foldl_ins ks (insK l k) h.ins
    refine ⟨this.1, fun y => ?_⟩
    rw [List.foldl_cons, this.2 y, mem_ins, List.mem_cons, or_assoc]
theorem setK_asc (ks : List Ky) : Asc (setK ks) := (foldl_ins ks [] List.Pairwise.nil).1
theorem setK_mem {ks : List Ky} {y : Ky} : y ∈ setK ks ↔ y ∈ ks := by
  unfold setK
  rw [(foldl_ins ks [] List.Pairwise.nil).2 y]
  simp
theorem ins_len (l : List Ky) (k : Ky) : (insK l k).length ≤ l.length + 1 := by
  induction l with
  | nil => simp [insK]
  | cons x l ih =>
    unfold insK
    split
    · simp only [List.length_cons]; omega
    · split <;> simp
theorem foldl_len : ∀ (ks l : List Ky), (ks.foldl insK l).length ≤ l.length + ks.length
  | [], l => by simp
  | k :: ks, l => by
    have h1 := foldl_len ks (insK l k)
    have h2 := ins_len l k
    simp only [List.foldl_cons, List.length_cons]
    omega
theorem setK_len (ks : List Ky) : (setK ks).length ≤ ks.length := by
  have := foldl_len ks []
  simpa [setK] using this
/-- A set is one list. -/
theorem Asc.uniq : ∀ {l m : List Ky}, Asc l → Asc m → (∀ y, y ∈ l ↔ y ∈ m) → l = m
  | [], [], _, _, _ => rfl
  | [], y :: m, _, _, h => absurd ((h y).2 List.mem_cons_self) (by simp)
  | x :: l, [], _, _, h => absurd ((h x).1 List.mem_cons_self) (by simp)
  | x :: l, y :: m, hl, hm, h => by
    have l1 := (List.pairwise_cons.1 hl).1
    have m1 := (List.pairwise_cons.1 hm).1
    have hxy : x = y := by
      rcases List.mem_cons.1 ((h x).1 List.mem_cons_self) with e | e
      · exact e
      · rcases List.mem_cons.1 ((h y).2 List.mem_cons_self) with e2 | e2
        · exact e2.symm
        · have a := m1 x e
          have b := l1 y e2
          rw [lk_asymm a] at b
          cases b
    subst hxy
    congr 1
    refine Asc.uniq (List.pairwise_cons.1 hl).2 (List.pairwise_cons.1 hm).2 fun z => ?_
    constructor
    · intro hz
      rcases List.mem_cons.1 ((h z).1 (List.mem_cons_of_mem _ hz)) with e | e
      · exact absurd e (lk_ne (l1 z hz)).symm
      · exact e
    · intro hz
      rcases List.mem_cons.1 ((h z).2 (List.mem_cons_of_mem _ hz)) with e | e
      · exact absurd e (lk_ne (m1 z hz)).symm
      · exact e
theorem setK_eq {ks : List Ky} {l : List Ky} (h : Asc l) (hm : ∀ y, y ∈ l ↔ y ∈ ks) : l = setK ks :=
  Asc.uniq h (setK_asc ks) fun y => by rw [hm, setK_mem]
/-- Insert by its place: behind all lesser ones. -/
def posK : List Ky → Ky → Nat
  | [], _ => 0
  | x :: l, k => if lk x k = true then posK l k + 1 else 0
theorem posK_le : ∀ (l : List Ky) (k : Ky), posK l k ≤ l.length
  | [], _ => Nat.le_refl _
  | x :: l, k => by unfold posK; split <;> simp [posK_le l k]
theorem posK_lt : ∀ {l : List Ky} {k : Ky} {i : Nat} {x : Ky}, i < posK l k → l[i]? = some x → lk x k = true
  | [], _, _, _, h, _ => absurd h (by simp [posK])
  | x :: l, k, i, y, h, hx => by
    unfold posK at h
    split at h
    · rename_i hk
      cases i with
      | zero => simp at hx; subst hx; exact hk
      | succ i => exact posK_lt (l := l) (i := i) (by omega) (by simpa using hx)
    · omega
theorem posK_at : ∀ {l : List Ky} {k x : Ky}, l[posK l k]? = some x → lk x k = false
  | [], _, _, h => by simp at h
  | x :: l, k, y, h => by
    unfold posK at h
    split at h
    · exact posK_at (l := l) (by simpa using h)
    · rename_i hk
      simp at h
      subst h
      simpa using hk
theorem insK_pos : ∀ (l : List Ky) (k : Ky), insK l k = if l[posK l k]? = some k then l else l.take (posK l k) ++ k :: l.drop (posK l k)
  | [], k => by simp [insK, posK]
  | x :: l, k => by
    unfold insK posK
    by_cases h : lk x k = true
    · rw [if_pos h, if_pos h, insK_pos l k]
      by_cases h2 : l[posK l k]? = some k
      · rw [if_pos h2, if_pos (by simpa using h2)]
      · rw [if_neg h2, if_neg (by simpa using h2)]
        simp
    · rw [if_neg h, if_neg h]
      by_cases h2 : x = k
      · rw [if_pos h2, if_pos (by simp [h2])]
      · rw [if_neg h2, if_neg (by simp [h2])]
        simp
/-- Of a sorted list each key once. -/
def ddK : List Ky → List Ky
  | [] => []
  | x :: l => match l with
    | [] => [x]
    | y :: m => if x = y then ddK l else x :: ddK l
/-- What is well-formed. -/
def chkK (x : Ky) : Bool :=
  if x.1 = 1 ∨ x.1 = 2 then nameB x.2.1 && nameB x.2.2
  else if x.1 = 3 ∨ x.1 = 4 then pathB x.2.1 && decide (x.2.2 = [])
  else if x.1 = 5 ∨ x.1 = 6 ∨ x.1 = 7 then nameB x.2.1 && decide (x.2.2 = [])
  else false
/-- What takes the place of a key at a level. -/
def upK (n : Nat) (x : Ky) : Ky :=
  if n = 2 ∧ (x.1 = 1 ∨ x.1 = 2) then (6, x.2.1, [])
  else if n = 3 ∧ (x.1 = 1 ∨ x.1 = 2 ∨ x.1 = 6) then (7, x.2.1, [])
  else x
theorem upK_two (x : Ky) {n m : Nat} (h1 : 1 ≤ n) (h2 : n ≤ m) (h3 : m ≤ 3) : upK m (upK n x) = upK m x := by
  unfold upK
  obtain rfl | rfl | rfl : n = 1 ∨ n = 2 ∨ n = 3 := by omega
  · simp
  · by_cases a : x.1 = 1 ∨ x.1 = 2
    · obtain rfl | rfl : m = 2 ∨ m = 3 := by omega
      · simp [a]
      · simp only [a]
        rcases a with a | a <;> simp [a]
    · simp [a]
  · obtain rfl : m = 3 := by omega
    by_cases a : x.1 = 1 ∨ x.1 = 2 ∨ x.1 = 6
    · simp [a]
    · simp [a]
theorem upK_chk {x : Ky} (h : chkK x = true) {n : Nat} (h1 : 1 ≤ n) (h3 : n ≤ 3) : chkK (upK n x) = true := by
  obtain rfl | rfl | rfl : n = 1 ∨ n = 2 ∨ n = 3 := by omega
  · simpa [upK] using h
  · by_cases a : x.1 = 1 ∨ x.1 = 2
    · have hn : nameB x.2.1 = true := by
        unfold chkK at h
        rw [if_pos a] at h
        simp only [Bool.and_eq_true] at h
        exact h.1
      simp [upK, a, chkK, hn]
    · simpa [upK, a] using h
  · by_cases a : x.1 = 1 ∨ x.1 = 2 ∨ x.1 = 6
    · have hn : nameB x.2.1 = true := by
        unfold chkK at h
        rcases a with a | a | a
        · simp [a] at h; exact h.1
        · simp [a] at h; exact h.1
        · simp [a] at h; exact h.1
      simp [upK, a, chkK, hn]
    · simpa [upK, a] using h
/-- The error of Keys, and its keys. -/
def keysE (n : Int) (ks : List Ky) : Nat := if n < 1 ∨ 3 < n then 3 else if ks.all chkK = true then 0 else 1
def keysL (n : Int) (ks : List Ky) : List Ky := if keysE n ks = 0 then setK (ks.map (upK n.toNat)) else []
theorem keysL_of {m : Nat} {l : List Ky} (e : keysE m l = 0) : keysL m l = setK (l.map (upK m)) := by
  unfold keysL
  rw [if_pos e, Int.toNat_natCast]
theorem keys_twice {ks : List Ky} (h : ks.all chkK = true) {n m : Nat} (h1 : 1 ≤ n) (h2 : n ≤ m) (h3 : m ≤ 3) :
    keysE n ks = 0 ∧ keysE m ks = 0 ∧ keysE m (keysL n ks) = 0 ∧ keysL m (keysL n ks) = keysL m ks := by
  have e1 : keysE n ks = 0 := by unfold keysE; rw [if_neg (by omega), if_pos h]
  have e2 : keysE m ks = 0 := by unfold keysE; rw [if_neg (by omega), if_pos h]
  have hl : keysL n ks = setK (ks.map (upK n)) := keysL_of e1
  have hc : (keysL n ks).all chkK = true := by
    rw [hl, List.all_eq_true]
    intro y hy
    rw [setK_mem, List.mem_map] at hy
    obtain ⟨x, hx, rfl⟩ := hy
    exact upK_chk (List.all_eq_true.1 h x hx) h1 (by omega)
  have e3 : keysE m (keysL n ks) = 0 := by unfold keysE; rw [if_neg (by omega), if_pos hc]
  refine ⟨e1, e2, e3, ?_⟩
  rw [keysL_of e3, keysL_of e2]
  refine setK_eq (setK_asc _) fun y => ?_
  rw [setK_mem, List.mem_map, List.mem_map]
  constructor
  · rintro ⟨x, hx, rfl⟩
    rw [hl, setK_mem, List.mem_map] at hx
    obtain ⟨z, hz, rfl⟩ := hx
    exact ⟨z, hz, (upK_two z h1 h2 h3).symm⟩
  · rintro ⟨z, hz, rfl⟩
    refine ⟨upK n z, ?_, upK_two z h1 h2 h3⟩
    rw [hl, setK_mem]
    exact List.mem_map.2 ⟨z, hz, rfl⟩
end KeyN
end Go.Proofs.YtpgnckjgclbepaaDoor
