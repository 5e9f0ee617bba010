/- Bytes of one's own: a byte is changed, bytes are appended where a guard asks for it. No condition. -/
import Derived.Test.YtlfoikjbbbhbdaaMTk
import Derived.Test.YtlfoikjbbbhbdaaWTape
namespace Go.Proofs.Ytlfoikjbbbhbdaa
namespace By
open Go.RowKit WireN
set_option linter.unusedVariables false
set_option linter.unusedSimpArgs false

theorem xorB (a b : Nat) (ha : a < 256) (hb : b < 256) : bits .xor .u8 (a : Int) (b : Int) = ((a ^^^ b : Nat) : Int) ∧ a ^^^ b < 256 := by
  have hx : a ^^^ b < 2 ^ 8 := Nat.xor_lt_two_pow (by omega) (by omega)
  have e : ∀ n : Nat, n < 256 → (BitVec.ofInt 8 (n : Int)).toNat = n := fun n h => by
    rw [BitVec.ofInt_natCast, BitVec.toNat_ofNat]; exact Nat.mod_eq_of_lt (by omega)
  refine ⟨?_, by omega⟩
  show IntKind.u8.wrap ((BitVec.ofInt 8 (a : Int) ^^^ BitVec.ofInt 8 (b : Int)).toNat : Int) = _
  rw [BitVec.toNat_xor, e a ha, e b hb]
  show ((a ^^^ b : Nat) : Int) % 256 = _
  omega
/-- A byte of memory of the call's own is stored. -/
theorem Own.putB {w wr : World} {ao : Option Addr} {n cap : Nat} {zs : List Nat} (h : Own w wr (.slice ao n cap) zs) (i : Nat) (hi : i < zs.length) (hs : zs.length ≤ 1000000) :
    ∃ g, ao = some ⟨g, 0, none⟩ ∧ w.heap.size ≤ g ∧ wr.cell? ⟨g, i, none⟩ = some (.int .u8 (zs[i]?.getD 0 : Nat)) ∧ wr.frozen? ⟨g, i, none⟩ = false ∧
      ∀ d : Nat, d < 256 → Sl (wr.setCell ⟨g, i, none⟩ (.int .u8 (d : Nat))) (.slice ao n cap) (zs.set i d) ∧ Kp w (wr.setCell ⟨g, i, none⟩ (.int .u8 (d : Nat))) := by
  obtain ⟨g, cap', cur, e, hb, hnc, hcm, hg, hsz, htake⟩ := h.parts (by omega)
  injection e with e1 e2 e3
  subst e1 e2 e3
  have hcur : ∀ j, j < zs.length → cur[j]? = some (.int .u8 (zs[j]?.getD 0 : Nat)) := by
    intro j hj
    have h1 : (cur.toList.take zs.length)[j]? = (U zs)[j]? := by rw [htake]
    rw [List.getElem?_take, if_pos hj] at h1
    rw [← Array.getElem?_toList, h1]
    simp [U, List.getElem?_eq_getElem hj]
  refine ⟨g, rfl, hb, ?_, frozen_of_row wr g i _ _ hg, fun d hd => ⟨?_, ?_⟩⟩
  · rw [cell_of_row wr g i _ _ (0, 0) hg]; exact hcur i hi
  · refine ⟨⟨some ⟨g, 0, none⟩, cap, by rw [List.length_set], by rw [List.length_set]; exact hnc, hcm, .inr ⟨g, 0, rfl, fun j hj => ?_⟩, fun h => nomatch h⟩, h.lt.set i d hd, by rw [List.length_set]; omega⟩
    rw [List.length_set] at hj
    rw [Nat.zero_add, cell_of_row _ g j _ _ (0, 0) (heap_setCell_same wr g i _ _ _ hg)]
    by_cases hji : j = i
    · subst hji
      rw [Array.getElem?_setIfInBounds, if_pos rfl, if_pos (by omega), List.getElem?_set_self hj]
      rfl
    · rw [Array.getElem?_setIfInBounds, if_neg (fun e => hji e.symm), hcur j hj, List.getElem?_set_ne (fun e => hji e.symm)]
  · exact Only.kp h.kp (Only.set (Only.refl g wr) i _) hb
/-- An operation whose guard says yes. -/
theorem wpList_yes {P : Program} {ops : Array Oper} {rest : List Oper} {o : Oper} {a : Act} {w : World} {Q : Exit → Act → World → Prop} (hw : Region.wanted o (yielded ops a.tmps) = true)
    (h : wpList P ops Q ({ o with guard := none } :: rest) a w) : wpList P ops Q (o :: rest) a w := by
  have h2 : Region.wanted { o with guard := none } (yielded ops a.tmps) = true := by simp [Region.wanted]
  simp only [wpList, h2, hw, if_true] at h ⊢
  exact h
end By
end Go.Proofs.Ytlfoikjbbbhbdaa
