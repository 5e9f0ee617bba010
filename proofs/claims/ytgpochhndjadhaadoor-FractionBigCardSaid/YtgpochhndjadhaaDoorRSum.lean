/- Contracts of the reference's sums, differences and products. Conditions: the slices hold the digits that are named. -/
import Derived.Test.YtgpochhndjadhaaDoorMul
namespace Go.Proofs.YtgpochhndjadhaaDoor
open Go.RowKit LimbN

/-- A slice of the call's own that is appended to. -/
structure Own (w wr : World) (v : Value) (k : Nat) (zs : List Nat) : Prop where
  owns : wr.ownsRow w.heap.size 50 1 v k (U zs)
  len : zs.length = k
  lt : Lt zs
  kp : Kp w wr
theorem Own.start (w : World) : Own w w (.slice none 0 0) 0 [] := ⟨World.ownsRow_nil _ _ _ _, rfl, Lt.nil, Kp.refl _⟩
theorem at_one {w : World} {D : Int} {e : TypeId} {d : Nat} (h : D = (d : Int)) : At (w.alloc (.cells #[.int .u32 D] e)) (some ⟨w.heap.size, 0, none⟩) [d] := by
  subst h
  refine .inr ⟨w.heap.size, 0, rfl, fun i hi => ?_⟩
  obtain rfl : i = 0 := by simpa using hi
  rw [cell_of_row _ w.heap.size 0 _ e (0, 0) (heap_alloc_new w _)]
  simp
theorem Own.app {w wr w1 : World} {v v' : Value} {k d : Nat} {zs : List Nat} {o : Obj} (h : Own w wr v k zs) (hd : d < 4294967296) (h1 : w1.ownsRow w.heap.size 50 1 v' (k + 1) (U (zs ++ [d]))) (h2 : (wr.alloc o).grownBy w1 v.ownBlock) : Own w w1 v' (k + 1) (zs ++ [d]) := by
  refine ⟨h1, by simp [h.len], h.lt.append (Lt.cons hd Lt.nil), ?_⟩
  refine Below.grown (Below.alloc h.kp h.kp.size _) h2 (by have := h.kp.size; simp; omega) (fun k hk => (h.owns.lt k hk).1)

theorem wf_len {xs ys : List Nat} (hxl : Lt xs) (hyl : Lt ys) (hx : wf xs = true) (hy : wf ys = true) (hle : val ys ≤ val xs) : ys.length ≤ xs.length := by
  have h1 := (wf_canon hyl hy).1
  have h2 := (wf_canon hxl hx).1
  rw [← h1, limbs_len_le]
  have h3 : (limbs (val xs)).length ≤ xs.length := by rw [h2]; exact Nat.le_refl _
  rw [limbs_len_le] at h3
  omega
theorem limbs_mono {m n : Nat} (h : m ≤ n) : (limbs m).length ≤ (limbs n).length := by
  rw [limbs_len_le]
  have h3 : (limbs n).length ≤ (limbs n).length := Nat.le_refl _
  rw [limbs_len_le] at h3
  omega
end Go.Proofs.YtgpochhndjadhaaDoor
