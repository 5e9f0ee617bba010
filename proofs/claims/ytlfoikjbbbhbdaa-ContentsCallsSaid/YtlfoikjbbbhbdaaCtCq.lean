/- The law of all calls, for arguments as the row reads them. Conditions: the string is not too long for a string, the store that is handed has at most 10^13 texts. -/
import Derived.Test.YtlfoikjbbbhbdaaCtCs
namespace Go.Proofs.Ytlfoikjbbbhbdaa
namespace By
open Go.RowKit WireN CtN
set_option linter.unusedVariables false
set_option linter.unusedSimpArgs false

theorem ctCalls_all {zs : List Int} {v vr : Value} {rs : List Tx} {w : World} (hz : SlI w v zs) (hr : Tw w vr rs) (hrl : rs.length ≤ 10000000000000) (s : ByteArray) (hs : s.size ≤ 140737488351232) (nn : Int) (hnn : -9223372036854775808 ≤ nn ∧ nn ≤ 9223372036854775807) :
    Calls Try.prog 3 #[v, .agg #[vr], .string s, .int .i64 nn] w fun e w' => e = .returned (.bool true) ∧ Kp w w' := by
  have h := ctCalls_any hz hr hrl (s := bs s) ⟨bs_lt s, by rw [bs_len]; omega⟩ nn hnn
  rwa [st_bs] at h
end By
end Go.Proofs.Ytlfoikjbbbhbdaa
