/- Strings as bytes and back; the program's PutUint, PutInt and PutText. Conditions: the slices hold the bytes that are named; together less than 2^46 bytes. -/
import Derived.Test.YtmkijkaabcgcbaaGreatDoorWCat
import Derived.Test.YtmkijkaabcgcbaaGreatDoorStr
namespace Go.Proofs.YtmkijkaabcgcbaaGreatDoor
namespace By
open Go.RowKit WireN
set_option linter.unusedVariables false
set_option linter.unusedSimpArgs false

set_option maxRecDepth 100000 in
set_option maxHeartbeats 1000000 in
theorem PutUint_any {v : Value} {xs : List Nat} {w : World} (hs : Sl w v xs) (hx : xs.length ≤ 35184372088832) (n : Nat) (hn : n < 18446744073709551616) :
    Calls Tryz.prog 46 #[v, .int .u64 n] w fun e w' => ∃ v', e = .returned v' ∧ Own w w' v' (xs ++ uv n) := by
  obtain ⟨ao, cap, rfl, -, -, -⟩ := hs.open3
  have HS := Lib.hid hs; clear hs
  have HT := Lib.hid (uv_ten hn)
  go_enter Tryz.func46, Tryz.ntmps46
  go_wp2_with fail
  refine (number_any n hn _).mono ?_
  rintro e w1 ⟨⟨v1, rfl, hs1, -⟩, hk1⟩
  obtain ⟨ao1, cap1, rfl, -, -, -⟩ := hs1.open3
  have HK1 := Lib.hid hk1; have HL := Lib.hid (Lists.two (e := 42) (HS.out.keep hk1) hs1); clear hs1 hk1
  go_wp2_with fail
  refine (Concat_any HL.out rfl (by simp) (by have := HT.out; simp; omega)).mono ?_
  rintro e w2 ⟨v2, rfl, hown⟩
  have FIN : Hid (Own w w2 v2 (xs ++ uv n)) := by
    have h := hown.base (Kp.trans HK1.out (kp_alloc _ _))
    show Own _ _ _ _
    simpa using h
  clear hown
  go_wp2_with fail
  go_ret
  exact ⟨_, rfl, FIN.out⟩

set_option maxRecDepth 100000 in
set_option maxHeartbeats 1000000 in
theorem PutText_any {v : Value} {xs : List Nat} {w : World} (hs : Sl w v xs) (hx : xs.length ≤ 17592186044416) (s : ByteArray) (hz : s.size ≤ 17592186044416) :
    Calls Tryz.prog 45 #[v, .string s] w fun e w' => ∃ v', e = .returned v' ∧ Own w w' v' (xs ++ (uv s.size ++ bs s)) := by
  obtain ⟨ao, cap, rfl, -, -, -⟩ := hs.open3
  have HS := Lib.hid hs; clear hs
  obtain ⟨l, el⟩ : ∃ l, l = s.size := ⟨_, rfl⟩
  have qs : ∀ w, (Builtin.len_ #[9] 3 #[.string s]).run Tryz.prog w = .ok (goInt l) w := fun w => by rw [run_len_string w _ _ s Tryz.underlying9, el]
  have qc : ∀ w, (convert 9 42 (.string s)).run Tryz.prog w = .ok (.slice (some ⟨w.heap.size, 0, none⟩) s.size (grownCap w s.size 0 5)) (Lib.bytesWorld w 5 s) := fun w =>
    Lib.run_convert_string_bytes w 9 42 5 s Tryz.underlying9 Tryz.underlying42 Tryz.underlying5
  rw [← el]
  have hl : l ≤ 17592186044416 := by omega
  have HT := Lib.hid (uv_ten (n := l) (by omega))
  have EL := Lib.hid el
  clear el
  go_enter Tryz.func45, Tryz.ntmps45
  go_wp2_with fail
  refine (number_any l (by omega) _).mono ?_
  rintro e w1 ⟨⟨v1, rfl, hs1, -⟩, hk1⟩
  obtain ⟨ao1, cap1, rfl, -, -, -⟩ := hs1.open3
  have HSL := Lib.hid (sl_bytesWorld w1 s (by omega))
  have HKB := Lib.hid (kp_bytesWorld w1 5 s)
  have HL := Lib.hid (Lists.three (e := 42) (HS.out.keep (Kp.trans hk1 HKB.out)) (hs1.keep HKB.out) HSL.out)
  have HK1 := Lib.hid hk1
  clear hs1 hk1
  go_wp2_with fail
  refine (Concat_any HL.out rfl (by simp) (by have := HT.out; have := EL.out; simp [bs_len]; omega)).mono ?_
  rintro e w2 ⟨v2, rfl, hown⟩
  have FIN : Hid (Own w w2 v2 (xs ++ (uv l ++ bs s))) := by
    have h := hown.base (Kp.trans HK1.out (Kp.trans HKB.out (kp_alloc _ _)))
    show Own _ _ _ _
    simpa using h
  clear hown
  go_wp2_with fail
  go_ret
  exact ⟨_, rfl, FIN.out⟩
end By
end Go.Proofs.YtmkijkaabcgcbaaGreatDoor
