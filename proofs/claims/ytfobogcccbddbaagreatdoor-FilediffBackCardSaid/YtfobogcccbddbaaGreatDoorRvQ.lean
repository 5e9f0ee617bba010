/- The program's place: a path among sorted files, by binary search. Condition: the slice reads as the files of a well-formed revision. -/
import Derived.Test.YtfobogcccbddbaaGreatDoorZba
import Derived.Test.YtfobogcccbddbaaGreatDoorRvO
import Derived.Test.YtfobogcccbddbaaGreatDoorZab
namespace Go.Proofs.YtfobogcccbddbaaGreatDoor
namespace By
open Go.RowKit WireN LexN RevN
theorem pos_le_iff {fs : List Fl} {p : List Nat} (hc : chk fs = 0) {k : Nat} {f : Fl} (hf : fs[k]? = some f) : (!lss f.1 p) = decide (pos fs p ≤ k) := by
  by_cases h : pos fs p ≤ k
  · rw [pos_ge (chk_ok hc).2 h hf, decide_eq_true h]
    rfl
  · rw [pos_lt (by omega) hf, decide_eq_false h]
    rfl
end By
end Go.Proofs.YtfobogcccbddbaaGreatDoor
