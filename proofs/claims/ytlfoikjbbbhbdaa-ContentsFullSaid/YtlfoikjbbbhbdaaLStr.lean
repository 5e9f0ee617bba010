/- Strings as lists of bytes: index, length, parts, the way to bytes and back. Conditions: the places lie in the string. -/
import Derived.Test.YtlfoikjbbbhbdaaStr
import Derived.Test.YtlfoikjbbbhbdaaLx
namespace Go.Proofs.Ytlfoikjbbbhbdaa
namespace By
open Go.RowKit WireN LexN
set_option linter.unusedVariables false
set_option linter.unusedSimpArgs false

theorem idx {l : List Nat} (hl : Lt l) {i : Nat} (h : i < l.length) (w : World) : (Instr.index 9 (.string (st l)) (.int .i64 (i : Int))).run Try.prog w = .ok (.int .u8 (at' l i : Nat)) w := by
  have hrs : i < (st l).size := by rw [st_size]; exact h
  have h1 : i < (st l).data.toList.length := hrs
  rw [run_index_string w 9 (st l) .i64 i Try.underlying9, dif_pos (by omega)]
  have e := bs_get (st l) i hrs
  rw [bs_st hl, List.getD_eq_getElem?_getD, List.getElem?_eq_getElem h1] at e
  unfold at'
  rw [← e]
  rfl
theorem len {l : List Nat} (w : World) : (Builtin.len_ #[9] 3 #[.string (st l)]).run Try.prog w = .ok (goInt l.length) w := by
  rw [run_len_string w _ _ (st l) Try.underlying9, st_size]
theorem st_sub {l : List Nat} {i j : Nat} : (st l).extract i j = st (sub l i j) := by
  unfold st sub
  apply ByteArray.ext
  apply Array.ext'
  simp [List.map_drop, List.map_take, ByteArray.data_extract, List.drop_take]
/-- s[i:j] -/
theorem cut {l : List Nat} {i j : Nat} (hij : i ≤ j) (hj : j ≤ l.length) (w : World) : (Instr.slice 9 (.string (st l)) (some (.int .i64 (i : Int))) (some (.int .i64 (j : Int))) none).run Try.prog w = .ok (.string (st (sub l i j))) w := by
  rw [run_slice_string w 9 (st l) .i64 .i64 i j Try.underlying9 (by omega) (by omega) (by rw [st_size]; omega), Int.toNat_natCast, Int.toNat_natCast, st_sub]
/-- s[i:] -/
theorem cut_from {l : List Nat} {i : Nat} (hi : i ≤ l.length) (w : World) : (Instr.slice 9 (.string (st l)) (some (.int .i64 (i : Int))) none none).run Try.prog w = .ok (.string (st (l.drop i))) w := by
  rw [run_slice_string_l w 9 (st l) Try.underlying9 .i64 i (by omega) (by rw [st_size]; omega), Int.toNat_natCast, st_sub, st_size]
  unfold sub
  rw [List.take_of_length_le (Nat.le_refl _)]
/-- s[:j] -/
theorem cut_to {l : List Nat} {j : Nat} (hj : j ≤ l.length) (w : World) : (Instr.slice 9 (.string (st l)) none (some (.int .i64 (j : Int))) none).run Try.prog w = .ok (.string (st (l.take j))) w := by
  rw [run_slice_string_h w 9 (st l) Try.underlying9 .i64 j (by omega) (by rw [st_size]; omega), Int.toNat_natCast, st_sub]
  rfl
end By
end Go.Proofs.Ytlfoikjbbbhbdaa
