/- Strings as lists of bytes, and the way to bytes and back. Condition: a slice holds the bytes that are named. -/
import Derived.Test.YtlfoikjbbbhbdaaWOwn
import Derived.Lib.ConvBytes
import Derived.Laws.BytesArg
namespace Go.Proofs.Ytlfoikjbbbhbdaa
namespace By
open Go.RowKit WireN
set_option linter.unusedVariables false
set_option linter.unusedSimpArgs false

/-- The bytes of a string, and the string of bytes. -/
def bs (s : ByteArray) : List Nat := s.data.toList.map UInt8.toNat
def st (xs : List Nat) : ByteArray := ⟨(xs.map fun n => UInt8.ofNat n).toArray⟩
theorem bs_len (s : ByteArray) : (bs s).length = s.size := by unfold bs; rw [List.length_map]; rfl
theorem bs_lt (s : ByteArray) : Lt (bs s) := lt_of_mem fun x hx => by
  obtain ⟨u, _, rfl⟩ := List.mem_map.1 hx
  exact u.toNat_lt
theorem st_size (xs : List Nat) : (st xs).size = xs.length := by show (xs.map fun n => UInt8.ofNat n).toArray.size = _; simp
theorem bs_st {xs : List Nat} (h : Lt xs) : bs (st xs) = xs := by
  simp only [bs, st, List.map_map]
  refine (List.map_congr_left fun x hx => ?_).trans (List.map_id _)
  have := h.mem hx
  simp; omega
theorem st_bs (s : ByteArray) : st (bs s) = s := by
  cases s with
  | mk d =>
    simp only [bs, st, List.map_map]
    congr 1
    have : ((fun n => UInt8.ofNat n) ∘ UInt8.toNat) = (id : UInt8 → UInt8) := by funext u; simp
    rw [this]; simp
theorem bs_get (s : ByteArray) (j : Nat) (hj : j < s.size) : ((s.data.toList.getD j 0).toNat : Nat) = (bs s)[j]?.getD 0 := by
  have h : j < s.data.toList.length := hj
  rw [bs, List.getD_eq_getElem?_getD, List.getElem?_map, List.getElem?_eq_getElem h]
  rfl
theorem st_strOfNums (xs : List Nat) : strOfNums (xs.map fun (x : Nat) => (x : Int)) = st xs := by
  simp [strOfNums, st, List.map_map, Function.comp_def]
/-- string(v) -/
theorem conv_str {w : World} {v : Value} {xs : List Nat} (h : Sl w v xs) : (convert 48 9 v).run Try.prog w = .ok (.string (st xs)) w := by
  obtain ⟨⟨ao, cap, rfl, h2, h3, h4, h5⟩, hl, hs⟩ := h
  rcases h4 with rfl | ⟨b, off, rfl, hc⟩
  · cases ao with
    | none => exact run_convert_bytes_nil w 48 5 Try.underlying48 Try.underlying5 0 cap 9 Try.underlying9
    | some a =>
      show (convert 48 9 (.slice (some a) 0 cap)).run Try.prog w = _
      rw [run_convert_bytes_string w 48 9 5 (some a) 0 cap Try.underlying48 Try.underlying5 Try.underlying9]
      rw [run_bytesToString w a 0 cap [] (by simpa using run_loadCells_list (P := Try.prog) w a [] (fun j v hj => by simp at hj))]
      rfl
  · have := run_convert_bytes_arg w 48 5 Try.underlying48 Try.underlying5 b off xs.length cap (xs.map fun (x : Nat) => (x : Int)) (by simp) (fun i hi => by
      rw [hc i hi]; simp [List.getD, List.getElem?_eq_getElem hi]) 9 Try.underlying9
    rw [st_strOfNums] at this
    exact this
/-- []byte(s) -/
theorem kp_bytesWorld (w : World) (e : TypeId) (s : ByteArray) : Kp w (Lib.bytesWorld w e s) :=
  ⟨rfl, rfl, rfl, by rw [Lib.bytesWorld_size]; omega, fun k hk => Lib.bytesWorld_at_old w e s k hk⟩
theorem sl_bytesWorld (w : World) (s : ByteArray) (hs : s.size ≤ 140737488355328) : Sl (Lib.bytesWorld w 5 s) (.slice (some ⟨w.heap.size, 0, none⟩) s.size (grownCap w s.size 0 5)) (bs s) := by
  have h1 := grownCap_ge w s.size 0 5
  have h2 := grownCap_le_maxLen w s.size 0 5 (by unfold maxLen; omega)
  refine ⟨⟨some ⟨w.heap.size, 0, none⟩, grownCap w s.size 0 5, by rw [bs_len], by rw [bs_len]; exact h1, h2, ?_, fun h => nomatch h⟩, bs_lt s, by rw [bs_len]; exact hs⟩
  refine .inr ⟨w.heap.size, 0, rfl, fun i hi => ?_⟩
  rw [bs_len] at hi
  rw [Nat.zero_add, Lib.bytesWorld_cell w _ s i hi, bs_get s i hi]
end By
end Go.Proofs.Ytlfoikjbbbhbdaa
