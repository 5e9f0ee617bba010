/- Strings as bytes and back; the program's PutUint, PutInt and PutText. Conditions: the slices hold the bytes that are named; together less than 2^46 bytes. -/
import Derived.Test.YtlfoikjbbbhbdaaWCat
import Derived.Test.YtlfoikjbbbhbdaaStr
namespace Go.Proofs.Ytlfoikjbbbhbdaa
namespace By
open Go.RowKit WireN
set_option linter.unusedVariables false
set_option linter.unusedSimpArgs false

set_option maxRecDepth 100000 in
set_option maxHeartbeats 1000000 in
theorem PutUint_any {v : Value} {xs : List Nat} {w : World} (hs : Sl w v xs) (hx : xs.length ≤ 35184372088832) (n : Nat) (hn : n < 18446744073709551616) :
    Calls Try.prog 49 #[v, .int .u64 n] w fun e w' => ∃ v', e = .returned v' ∧ Own w w' v' (xs ++ uv n) := by
  obtain ⟨ao, cap, rfl, -, -, -⟩ := hs.open3
  have HS := Lib.hid hs; clear hs
  have HT := Lib.hid (uv_ten hn)
  go_enter Try.func49, Try.ntmps49
  go_wp2_with fail
  refine (number_any n hn _).mono ?_
  rintro e w1 ⟨⟨v1, rfl, hs1, -⟩, hk1⟩
  obtain ⟨ao1, cap1, rfl, -, -, -⟩ := hs1.open3
  have HK1 := Lib.hid hk1; have HL := Lib.hid (Lists.two (e := 48) (HS.out.keep hk1) hs1); clear hs1 hk1
  go_wp2_with fail
  refine (Concat_any HL.out rfl (by simp) (by have := HT.out; simp; omega)).mono ?_
  rintro e w2 ⟨v2, rfl, hown⟩
  have FIN : Hid (Own w w2 v2 (xs ++ uv n)) := by
    have h := hown.base (Kp.trans HK1.out (kp_alloc _ _))
    show Own _ _ _ _
    simpa using h
  clear hown
  go_wp2_with fail
  go_ret
  exact ⟨_, rfl, FIN.out⟩

end By
end Go.Proofs.Ytlfoikjbbbhbdaa
