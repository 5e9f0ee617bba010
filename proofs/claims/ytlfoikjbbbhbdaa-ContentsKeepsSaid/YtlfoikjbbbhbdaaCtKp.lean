/- The law on kept numbers, over the program's own functions. No condition but the size of the string that is handed. -/
import Derived.Test.YtlfoikjbbbhbdaaCtZb
import Derived.Test.YtlfoikjbbbhbdaaCtBy
import Derived.Test.YtlfoikjbbbhbdaaMMg
import Derived.Test.YtlfoikjbbbhbdaaCtKk
namespace Go.Proofs.Ytlfoikjbbbhbdaa
namespace By
open Go.RowKit WireN CtN
set_option linter.unusedVariables false
set_option linter.unusedSimpArgs false

theorem ctKeeps_all {zs : List Int} {v : Value} {w : World} (hz : SlI w v zs) (s : ByteArray) (hs : s.size ≤ 140737488351232) :
    Calls Try.prog 5 #[v, .string s] w fun e w' => e = .returned (.bool true) ∧ Kp w w' := by
  have h := ctKeeps_any putC getC (fun ha hb => merge_any ha hb) (fun hs hu h => keep_any hs hu h) encC decC hz (x := bs s) ⟨bs_lt s, by rw [bs_len]; omega⟩
  rwa [st_bs] at h
end By
end Go.Proofs.Ytlfoikjbbbhbdaa
