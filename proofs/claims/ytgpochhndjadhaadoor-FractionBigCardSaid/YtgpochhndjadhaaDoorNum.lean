/- The program's isNumeral: whether a text is decimal digits with no zero before another digit. No condition. -/
import Derived.Test.YtgpochhndjadhaaDoorAppd
namespace Go.Proofs.YtgpochhndjadhaaDoor
open Go.RowKit LimbN

/-- byte i of a text. -/
def sb (s : ByteArray) (i : Nat) : Nat := (s.data[i]?.getD 0).toNat
theorem sb_lt (s : ByteArray) (i : Nat) : sb s i < 256 := UInt8.toNat_lt _
theorem idx_str (s : ByteArray) (i : Nat) (h : i < s.size) (w : World) : (Instr.index 9 (.string s) (.int .i64 (i : Int))).run Tryd.prog w = .ok (.int .u8 (sb s i : Nat)) w := by
  rw [run_index_string w 9 s .i64 i Tryd.underlying9, dif_pos (by omega)]
  have e : (s[(i : Int).toNat]'(by omega)).toNat = sb s i := by
    unfold sb
    have h1 : i < s.data.size := h
    rw [Array.getElem?_eq_getElem h1]
    rfl
  rw [e]
/-- decimal digits with no zero before another digit. -/
def Num (s : ByteArray) : Prop := 0 < s.size ∧ ¬ (1 < s.size ∧ sb s 0 = 48) ∧ ∀ i, i < s.size → 48 ≤ sb s i ∧ sb s i ≤ 57

def NumR (s : ByteArray) (w : World) (e : Ending) (w' : World) : Prop := ∃ b : Bool, e = .returned (.bool b) ∧ (b = true ↔ Num s) ∧ Drawn w w'
end Go.Proofs.YtgpochhndjadhaaDoor
