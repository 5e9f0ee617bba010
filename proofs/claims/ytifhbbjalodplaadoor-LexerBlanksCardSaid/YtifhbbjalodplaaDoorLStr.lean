/- Strings as lists of bytes: index, length, parts, the way to bytes and back. Conditions: the places lie in the string. -/
import Derived.Test.YtifhbbjalodplaaDoorWOwn
import Derived.Test.YtifhbbjalodplaaDoorLx
import Derived.Lib.ConvBytes
import Derived.Laws.BytesArg
namespace Go.Proofs.YtifhbbjalodplaaDoor
namespace By
open Go.RowKit WireN LexN
set_option linter.unusedVariables false
set_option linter.unusedSimpArgs false

/-- The bytes of a string, and the string of bytes. -/
def bs (s : ByteArray) : List Nat := s.data.toList.map UInt8.toNat
def st (xs : List Nat) : ByteArray := ⟨(xs.map fun n => UInt8.ofNat n).toArray⟩
theorem bs_len (s : ByteArray) : (bs s).length = s.size := by unfold bs; rw [List.length_map]; rfl
theorem bs_lt (s : ByteArray) : Lt (bs s) := lt_of_mem fun x hx => by
  obtain ⟨u, _, rfl⟩ := List.mem_map.1 hx
  exact u.toNat_lt
theorem st_size (xs : List Nat) : (st xs).size = xs.length := by show (xs.map fun n => UInt8.ofNat n).toArray.size = _; simp
theorem bs_st {xs : List Nat} (h : Lt xs) : bs (st xs) = xs := by
  simp only [bs, st, List.map_map]
  refine (List.map_congr_left fun x hx => ?_).trans (List.map_id _)
  have := h.mem hx
  simp; omega
theorem st_bs (s : ByteArray) : st (bs s) = s := by
  cases s with
  | mk d =>
    simp only [bs, st, List.map_map]
    congr 1
    have : ((fun n => UInt8.ofNat n) ∘ UInt8.toNat) = (id : UInt8 → UInt8) := by funext u; simp
    rw [this]; simp
theorem bs_get (s : ByteArray) (j : Nat) (hj : j < s.size) : ((s.data.toList.getD j 0).toNat : Nat) = (bs s)[j]?.getD 0 := by
  have h : j < s.data.toList.length := hj
  rw [bs, List.getD_eq_getElem?_getD, List.getElem?_map, List.getElem?_eq_getElem h]
  rfl
theorem st_strOfNums (xs : List Nat) : strOfNums (xs.map fun (x : Nat) => (x : Int)) = st xs := by
  simp [strOfNums, st, List.map_map, Function.comp_def]
/-- string(v) -/
theorem conv_str {w : World} {v : Value} {xs : List Nat} (h : Sl w v xs) : (convert 43 9 v).run Tryd.prog w = .ok (.string (st xs)) w := by
  obtain ⟨⟨ao, cap, rfl, h2, h3, h4, h5⟩, hl, hs⟩ := h
  rcases h4 with rfl | ⟨b, off, rfl, hc⟩
  · cases ao with
    | none => exact run_convert_bytes_nil w 43 5 Tryd.underlying43 Tryd.underlying5 0 cap 9 Tryd.underlying9
    | some a =>
      show (convert 43 9 (.slice (some a) 0 cap)).run Tryd.prog w = _
      rw [run_convert_bytes_string w 43 9 5 (some a) 0 cap Tryd.underlying43 Tryd.underlying5 Tryd.underlying9]
      rw [run_bytesToString w a 0 cap [] (by simpa using run_loadCells_list (P := Tryd.prog) w a [] (fun j v hj => by simp at hj))]
      rfl
  · have := run_convert_bytes_arg w 43 5 Tryd.underlying43 Tryd.underlying5 b off xs.length cap (xs.map fun (x : Nat) => (x : Int)) (by simp) (fun i hi => by
      rw [hc i hi]; simp [List.getD, List.getElem?_eq_getElem hi]) 9 Tryd.underlying9
    rw [st_strOfNums] at this
    exact this
/-- []byte(s) -/
theorem kp_bytesWorld (w : World) (e : TypeId) (s : ByteArray) : Kp w (Lib.bytesWorld w e s) :=
  ⟨rfl, rfl, rfl, by rw [Lib.bytesWorld_size]; omega, fun k hk => Lib.bytesWorld_at_old w e s k hk⟩
theorem sl_bytesWorld (w : World) (s : ByteArray) (hs : s.size ≤ 140737488355328) : Sl (Lib.bytesWorld w 5 s) (.slice (some ⟨w.heap.size, 0, none⟩) s.size (grownCap w s.size 0 5)) (bs s) := by
  have h1 := grownCap_ge w s.size 0 5
  have h2 := grownCap_le_maxLen w s.size 0 5 (by unfold maxLen; omega)
  refine ⟨⟨some ⟨w.heap.size, 0, none⟩, grownCap w s.size 0 5, by rw [bs_len], by rw [bs_len]; exact h1, h2, ?_, fun h => nomatch h⟩, bs_lt s, by rw [bs_len]; exact hs⟩
  refine .inr ⟨w.heap.size, 0, rfl, fun i hi => ?_⟩
  rw [bs_len] at hi
  rw [Nat.zero_add, Lib.bytesWorld_cell w _ s i hi, bs_get s i hi]
theorem idx {l : List Nat} (hl : Lt l) {i : Nat} (h : i < l.length) (w : World) : (Instr.index 9 (.string (st l)) (.int .i64 (i : Int))).run Tryd.prog w = .ok (.int .u8 (at' l i : Nat)) w := by
  have hrs : i < (st l).size := by rw [st_size]; exact h
  have h1 : i < (st l).data.toList.length := hrs
  rw [run_index_string w 9 (st l) .i64 i Tryd.underlying9, dif_pos (by omega)]
  have e := bs_get (st l) i hrs
  rw [bs_st hl, List.getD_eq_getElem?_getD, List.getElem?_eq_getElem h1] at e
  unfold at'
  rw [← e]
  rfl
theorem len {l : List Nat} (w : World) : (Builtin.len_ #[9] 3 #[.string (st l)]).run Tryd.prog w = .ok (goInt l.length) w := by
  rw [run_len_string w _ _ (st l) Tryd.underlying9, st_size]
theorem st_sub {l : List Nat} {i j : Nat} : (st l).extract i j = st (sub l i j) := by
  unfold st sub
  apply ByteArray.ext
  apply Array.ext'
  simp [List.map_drop, List.map_take, ByteArray.data_extract, List.drop_take]
/-- s[i:j] -/
theorem cut {l : List Nat} {i j : Nat} (hij : i ≤ j) (hj : j ≤ l.length) (w : World) : (Instr.slice 9 (.string (st l)) (some (.int .i64 (i : Int))) (some (.int .i64 (j : Int))) none).run Tryd.prog w = .ok (.string (st (sub l i j))) w := by
  rw [run_slice_string w 9 (st l) .i64 .i64 i j Tryd.underlying9 (by omega) (by omega) (by rw [st_size]; omega), Int.toNat_natCast, Int.toNat_natCast, st_sub]
/-- s[i:] -/
theorem cut_from {l : List Nat} {i : Nat} (hi : i ≤ l.length) (w : World) : (Instr.slice 9 (.string (st l)) (some (.int .i64 (i : Int))) none none).run Tryd.prog w = .ok (.string (st (l.drop i))) w := by
  rw [run_slice_string_l w 9 (st l) Tryd.underlying9 .i64 i (by omega) (by rw [st_size]; omega), Int.toNat_natCast, st_sub, st_size]
  unfold sub
  rw [List.take_of_length_le (Nat.le_refl _)]
/-- s[:j] -/
theorem cut_to {l : List Nat} {j : Nat} (hj : j ≤ l.length) (w : World) : (Instr.slice 9 (.string (st l)) none (some (.int .i64 (j : Int))) none).run Tryd.prog w = .ok (.string (st (l.take j))) w := by
  rw [run_slice_string_h w 9 (st l) Tryd.underlying9 .i64 j (by omega) (by rw [st_size]; omega), Int.toNat_natCast, st_sub]
  rfl
end By
end Go.Proofs.YtifhbbjalodplaaDoor
