/- A row of strings that the call owns, written in place. -/
import Derived.Test.YtgpochhndjadhaaGreatDoorPcs
import Derived.Test.YtgpochhndjadhaaGreatDoorRParse
import Derived.Test.YtgpochhndjadhaaGreatDoorFormat
namespace Go.Proofs.YtgpochhndjadhaaGreatDoor
open Go.RowKit LimbN
set_option linter.unusedVariables false
set_option linter.unusedSimpArgs false

/-- a piece as a string. -/
def bS (l : List UInt8) : ByteArray := ⟨l.toArray⟩
def bV (l : List UInt8) : Value := .string (bS l)
theorem bS_size (l : List UInt8) : (bS l).size = l.length := rfl
/-- The row of pieces that the call has gathered. -/
structure OwnP (w wr : World) (v : Value) (q : List (List UInt8) × List UInt8) : Prop where
  owns : wr.ownsRow w.heap.size 9 1 v (q.1.length + 1) (q.1.map bV ++ [bV q.2])
  kp : Kp w wr
theorem OwnP.keep {w wr w1 : World} {v : Value} {q : List (List UInt8) × List UInt8} (h : OwnP w wr v q) (hk : Kp wr w1) : OwnP w w1 v q := by
  refine ⟨?_, Kp.trans h.kp hk⟩
  refine ⟨h.owns.1, ?_⟩
  rcases h.owns.2 with hn | ⟨g, cap, cur, e, hb, hg, r⟩
  · exact .inl hn
  · exact .inr ⟨g, cap, cur, e, hb, by rw [hk.block g (lt_of_block hg)]; exact hg, r⟩
theorem OwnP.app {w wr w1 : World} {v v' : Value} {q : List (List UInt8) × List UInt8} {x : List UInt8} {o : Obj} (h : OwnP w wr v q) (h1 : w1.ownsRow w.heap.size 9 1 v' (q.1.length + 1 + 1) (q.1.map bV ++ [bV q.2] ++ [bV x])) (h2 : (wr.alloc o).grownBy w1 v.ownBlock) : OwnP w w1 v' (q.1 ++ [q.2], x) := by
  refine ⟨by simpa using h1, ?_⟩
  exact Below.grown (Below.alloc h.kp h.kp.size _) h2 (by have := h.kp.size; simp; omega) (fun k hk => (h.owns.lt k hk).1)
theorem OwnP.form {w wr : World} {v : Value} {q : List (List UInt8) × List UInt8} (h : OwnP w wr v q) :
    ∃ g cap cur, v = .slice (some ⟨g, 0, none⟩) (q.1.length + 1 : Nat) cap ∧ w.heap.size ≤ g ∧ wr.heap[g]? = some (.cells cur 9 (0, 0)) ∧ q.1.length + 1 ≤ cap ∧ cap ≤ maxLen ∧ cur.size = cap ∧ cur.toList.take (q.1.length + 1) = q.1.map bV ++ [bV q.2] := by
  rcases h.owns.2 with ⟨_, h0⟩ | ⟨g, cap, cur, rfl, hb, hg, hnc, hcm, hsz, ht⟩
  · omega
  · exact ⟨g, cap, cur, rfl, hb, hg, hnc, hcm, by omega, by simpa using ht⟩
theorem OwnP.formk {w wr : World} {v : Value} {P : List (List UInt8)} {x : List UInt8} {k : Nat} (h : OwnP w wr v (P, x)) (hk : k = P.length) :
    ∃ g cap cur, v = .slice (some ⟨g, 0, none⟩) (k + 1) cap ∧ w.heap.size ≤ g ∧ wr.heap[g]? = some (.cells cur 9 (0, 0)) ∧ k + 1 ≤ cap ∧ cap ≤ maxLen ∧ cur.size = cap ∧ cur.toList.take (k + 1) = P.map bV ++ [bV x] := by
  subst hk
  exact h.form
theorem own_cell {w : World} {g n : Nat} {cur : Array Value} {xs : List Value} (hg : w.heap[g]? = some (.cells cur 9 (0, 0))) (ht : cur.toList.take n = xs) (i : Nat) (hi : i < n) (u : Value) (hu : xs[i]? = some u) : w.cell? ⟨g, i, none⟩ = some u := by
  rw [cell_of_row w g i cur 9 (0, 0) hg, ← Array.getElem?_toList]
  have h1 : (cur.toList.take n)[i]? = some u := by rw [ht]; exact hu
  rw [List.getElem?_take, if_pos hi] at h1
  exact h1
/-- The last piece written in place. -/
theorem OwnP.set {w wr : World} {g cap k : Nat} {q : List (List UInt8) × List UInt8} (hk : k = q.1.length) (h : OwnP w wr (.slice (some ⟨g, 0, none⟩) (k + 1 : Nat) cap) q) (x : List UInt8) : OwnP w (wr.setCell ⟨g, k, none⟩ (bV x)) (.slice (some ⟨g, 0, none⟩) (k + 1 : Nat) cap) (q.1, x) := by
  subst hk
  obtain ⟨g', cap', cur, e, hb, hg, hc, hm, hsz, ht⟩ := h.form
  simp only [Value.slice.injEq, Option.some.injEq, Addr.mk.injEq] at e
  obtain ⟨⟨rfl, -, -⟩, -, rfl⟩ := e
  have hs := heap_setCell_same wr g q.1.length _ _ (bV x) hg
  refine ⟨⟨by simp, .inr ⟨g, cap, _, rfl, hb, hs, hc, hm, by simp [hsz], ?_⟩⟩, ?_⟩
  · rw [Array.toList_setIfInBounds, Nat.mul_one]
    apply List.ext_getElem?
    intro i
    have h1 : ∀ i : Nat, i < q.1.length + 1 → cur.toList[i]? = (q.1.map bV ++ [bV q.2])[i]? := fun i hi => by
      rw [← ht, List.getElem?_take, if_pos hi]
    rw [List.getElem?_take]
    by_cases hi : i < q.1.length + 1
    · rw [if_pos hi, List.getElem?_set]
      by_cases hj : q.1.length = i
      · subst hj
        rw [if_pos rfl, if_pos (by simp; omega), List.getElem?_append_right (by simp)]
        simp
      · rw [if_neg hj, h1 i hi, List.getElem?_append_left (by simp; omega), List.getElem?_append_left (by simp; omega)]
    · rw [if_neg hi, List.getElem?_eq_none (by simp; omega)]
  · exact ((Only.refl g wr).set q.1.length (bV x)).kp h.kp hb
theorem OwnP.start {w w1 : World} (hk : Kp w w1) : OwnP w (w1.alloc (Obj.cells #[.string ⟨#[]⟩] 9)) (.slice (some ⟨w1.heap.size, 0, none⟩) 1 1) ([], []) := by
  refine ⟨⟨rfl, .inr ⟨w1.heap.size, 1, _, rfl, hk.size, heap_alloc_new w1 _, Nat.le_refl _, by unfold maxLen; omega, rfl, rfl⟩⟩, Kp.alloc hk _⟩
theorem Mid.q1 {S : ByteArray} {x : List UInt8} (hs : ¬ 2601 < S.size) (hq : pcs S.data.toList = ([], x)) : Mid S (bS x) (bS [49]) false := by
  have h1 : pv ⟨#[49]⟩ (⟨#[49]⟩ : ByteArray).size = 1 := nE_one.2
  have h2 : bS [49] = ⟨#[49]⟩ := rfl
  rw [h2]
  apply Mid.of
  · unfold fE
    rw [if_neg hs, hq, nE_one.1, h1]
    rfl
  · rw [hq, h1]
    rfl
theorem Mid.q2 {S : ByteArray} {a x : List UInt8} (hs : ¬ 2601 < S.size) (hq : pcs S.data.toList = ([a], x)) : Mid S (bS a) (bS x) false := by
  apply Mid.of
  · unfold fE
    rw [if_neg hs, hq]
    rfl
  · rw [hq]
    rfl
theorem sb_list (S : ByteArray) (i : Nat) (h : i < S.data.toList.length) : sb S i = (S.data.toList[i]).toNat := by
  unfold sb
  rw [← Array.getElem?_toList, List.getElem?_eq_getElem h]
  rfl
theorem ext_one (S : ByteArray) (i : Nat) (h : i < S.data.toList.length) : S.extract i (i + 1) = bS [S.data.toList[i]] := by
  apply bext
  have h2 : i < S.data.size := by simpa using h
  show _ = [S.data.toList[i]]
  apply List.ext_getElem?
  intro j
  rw [Array.getElem?_toList, ByteArray.data_extract]
  cases j with
  | zero =>
    simp [Array.getElem?_extract, h2]
    have h3 : i < S.size := h2
    omega
  | succ j =>
    simp [Array.getElem?_extract]
    omega
theorem bS_app (x : List UInt8) (c : UInt8) : bS x ++ bS [c] = bS (x ++ [c]) := by
  apply bext
  simp [bS, ByteArray.data_append]
theorem pcs_succ {l : List UInt8} {i : Nat} (h : i < l.length) : pcs (l.take (i + 1)) = stepQ (pcs (l.take i)) l[i] := by
  unfold pcs
  rw [List.take_add_one, List.getElem?_eq_getElem h, List.foldl_append]
  rfl
theorem pcs_len (l : List UInt8) : (pcs l).1.length ≤ l.length ∧ (pcs l).2.length ≤ l.length := by
  have key : ∀ (l : List UInt8) (P : List (List UInt8)) (x : List UInt8), (l.foldl stepQ (P, x)).1.length ≤ P.length + l.length ∧ (l.foldl stepQ (P, x)).2.length ≤ x.length + l.length := by
    intro l
    induction l with
    | nil => intro P x; simp
    | cons b l ih =>
      intro P x
      rw [List.foldl_cons]
      by_cases hb : b = 47
      · rw [show stepQ (P, x) b = (P ++ [x], []) by unfold stepQ; rw [if_pos hb]]
        have := ih (P ++ [x]) []
        simp at this ⊢
        omega
      · rw [show stepQ (P, x) b = (P, x ++ [b]) by unfold stepQ; rw [if_neg hb]]
        have := ih P (x ++ [b])
        simp at this ⊢
        omega
  have := key l [] []
  simpa [pcs] using this
theorem pcs_first {l a x : List UInt8} (h : pcs l = ([a], x)) (hl : l.length ≤ 2601) : a.length ≤ 2601 := by
  rcases stroke l with h1 | ⟨b, m, hm, hb⟩
  · rw [pcs_one h1] at h
    simp at h
  · rw [hm, pcs_at hb] at h
    have h2 : ∀ (m : List UInt8) (P : List (List UInt8)) (x : List UInt8), P <+: (m.foldl stepQ (P, x)).1 := by
      intro m
      induction m with
      | nil => intro P x; simp
      | cons c m ih =>
        intro P x
        rw [List.foldl_cons]
        by_cases hc : c = 47
        · rw [show stepQ (P, x) c = (P ++ [x], []) by unfold stepQ; rw [if_pos hc]]
          exact (List.prefix_append P [x]).trans (ih _ _)
        · rw [show stepQ (P, x) c = (P, x ++ [c]) by unfold stepQ; rw [if_neg hc]]
          exact ih _ _
    have h3 := h2 m [b] []
    rw [h] at h3
    have h4 := List.IsPrefix.eq_of_length h3 rfl
    have h5 : b = a := by simpa using h4
    subst h5
    have : l.length = b.length + (m.length + 1) := by rw [hm]; simp
    omega
end Go.Proofs.YtgpochhndjadhaaGreatDoor
