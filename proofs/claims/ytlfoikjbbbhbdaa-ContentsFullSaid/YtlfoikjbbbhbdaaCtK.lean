/- The reference's Keep. Condition: at most a million numbers. -/
import Derived.Test.YtlfoikjbbbhbdaaCtJ
namespace Go.Proofs.Ytlfoikjbbbhbdaa
namespace By
open Go.RowKit WireN CtN
set_option linter.unusedVariables false
set_option linter.unusedSimpArgs false

/-- Which numbers below n are in a list. -/
def mks (n : Nat) (u : List Int) : List Bool := (List.range n).map fun (i : Nat) => decide ((i : Int) ∈ u)
theorem mks_len (n : Nat) (u : List Int) : (mks n u).length = n := by simp [mks]
theorem mks_at {n : Nat} {u : List Int} {k : Nat} (h : k < n) : (mks n u)[k]? = some (decide ((k : Int) ∈ u)) := by simp [mks, h]
theorem mks_set {n : Nat} {u : List Int} {k : Nat} (h : k < n) : (mks n u).set k true = mks n (u ++ [(k : Int)]) := by
  refine List.ext_getElem? fun j => ?_
  rw [List.getElem?_set, mks_len]
  by_cases hj : j < n
  · rw [mks_at hj, mks_at hj]
    by_cases e : k = j
    · subst e; rw [if_pos rfl, if_pos h]; exact congrArg some (decide_eq_true (List.mem_append_right u List.mem_cons_self)).symm
    · rw [if_neg e]
      have : ¬ (j : Int) = (k : Int) := by omega
      simp [this]
  · have h1 : (mks n (u ++ [(k : Int)]))[j]? = none := List.getElem?_eq_none (by rw [mks_len]; omega)
    have h2 : (mks n u)[j]? = none := List.getElem?_eq_none (by rw [mks_len]; omega)
    rw [h1, h2, if_neg (by omega)]
theorem mks_nil (n : Nat) : mks n [] = List.replicate n false := by
  refine List.ext_getElem? fun j => ?_
  by_cases hj : j < n
  · rw [mks_at hj]; simp [hj]
  · rw [List.getElem?_eq_none (by rw [mks_len]; omega), List.getElem?_eq_none (by simp; omega)]
/-- The cells of booleans. -/
def bcel (bs : List Bool) : List Value := bs.map Value.bool
theorem bcel_at {bs : List Bool} {k : Nat} {x : Bool} (h : bs[k]? = some x) : (bcel bs)[k]? = some (.bool x) := by simp [bcel, h]
def BB (W : World) (g : Nat) (bs : List Bool) : Prop := Blk W g 4 (bcel bs).toArray
theorem BB.cell {W : World} {g : Nat} {bs : List Bool} {k : Nat} {x : Bool} (h : BB W g bs) (hx : bs[k]? = some x) : W.cell? ⟨g, k, none⟩ = some (.bool x) := Blk.cell h k (by simpa using bcel_at hx)
theorem BB.set {W : World} {g : Nat} {bs : List Bool} (h : BB W g bs) (k : Nat) (x : Bool) : BB (W.setCell ⟨g, k, none⟩ (.bool x)) g (bs.set k x) := by
  have := Blk.set h k (.bool x)
  unfold BB
  rw [show (bcel (bs.set k x)).toArray = (bcel bs).toArray.setIfInBounds k (.bool x) by simp [bcel, List.map_set]]
  exact this
theorem infoBl : (Try.prog.info? 4).map (fun i => (i.zero, i.size, i.bytes)) = some (some (.bool false), 1, 1) := by kernel_rfl
theorem make_bool {n : Nat} (hn : n ≤ 1000000) (W : World) : (Instr.makeSlice 75 (.int .i64 (n : Int)) (.int .i64 (n : Int))).run Try.prog W = .ok (.slice (some ⟨W.heap.size, 0, none⟩) n n) (W.alloc (.cells (bcel (mks n [])).toArray 4)) := by
  obtain ⟨i0, hi, hz0, hz1, hz2⟩ := info_parts infoBl
  have h := run_make (P := Try.prog) W 75 4 i0 (.bool false) Try.underlying75 hi hz0 .i64 .i64 (n : Int) (n : Int) (by omega) (Int.le_refl _) (by rw [hz2]; omega) (by omega)
  rw [hz1, Nat.mul_one, Int.toNat_natCast] at h
  rw [h]
  have e : madeCells (Value.bool false).cells n = (bcel (mks n [])).toArray := by
    rw [mks_nil]
    apply Array.ext
    · simp [madeCells, bcel]
    · intro i h1 h2
      simp [madeCells, bcel, Value.cells, Nat.mod_one]
  rw [e]
/-- What Keep answers. -/
def kpE (s : List Tx) (u : List Int) : Nat := if err s ≠ 0 then err s else kerr s.length u
def kpL (s : List Tx) (u : List Int) : List Tx := if kpE s u = 0 then (kps u s 0 0).1 else []
def kpN (s : List Tx) (u : List Int) : List Int := if kpE s u = 0 then (kps u s 0 0).2 else []
theorem kpL_no {s : List Tx} {u : List Int} (h : kpE s u ≠ 0) : kpL s u = [] ∧ kpN s u = [] := ⟨if_neg h, if_neg h⟩
theorem kpL_ok {s : List Tx} {u : List Int} (h : kpE s u = 0) : kpL s u = (kps u s 0 0).1 ∧ kpN s u = (kps u s 0 0).2 := ⟨if_pos h, if_pos h⟩
def KeepR (s : List Tx) (us : List Int) (w : World) (e : Ending) (w' : World) : Prop :=
  ∃ u nv, e = .returned (.tuple #[.agg #[u], nv, .int .i64 (kpE s us : Nat)]) ∧ Tw w' u (kpL s us) ∧ Jw w' nv (kpN s us) ∧ (∀ c, u.ownBlock = some c → w.heap.size ≤ c) ∧ (∀ c, nv.ownBlock = some c → w.heap.size ≤ c) ∧ Kp w w'
end By
end Go.Proofs.Ytlfoikjbbbhbdaa
