/- Path where a package variable of the library holds some integer. Condition: it does. -/
import Derived.Test.YtpgnckjgclbepaaDoorLRName
namespace Go.Proofs.YtpgnckjgclbepaaDoor
namespace By
open Go.RowKit WireN LexN
set_option linter.unusedVariables false
set_option linter.unusedSimpArgs false

/-- The package variable of the library that Split's contract asks for. -/
def MX (w : World) : Prop := ∃ m : Int, w.cell? ⟨1, 0, none⟩ = some (.int .i64 m)
theorem MX.keep {w w' : World} (h : MX w) (hk : Kp w w') : MX w' := by
  obtain ⟨m, hm⟩ := h
  exact ⟨m, cell_kept hm hk⟩
theorem Path_mx {l : List Nat} (hl : Lt l) (hlen : l.length ≤ 1000000) {w : World} (hm : MX w) :
    Calls Tryd.prog 31 #[.string (st l)] w fun e w' => e = .returned (.bool (pathB l)) ∧ Kp w w' := by
  obtain ⟨m, hm⟩ := hm
  exact Path_any hl hlen hm
theorem lt_dec {l : List Nat} (h : l.all (fun x => decide (x < 256)) = true) : Lt l := lt_of_mem fun x hx => by simpa using List.all_eq_true.1 h x hx
end By
end Go.Proofs.YtpgnckjgclbepaaDoor
