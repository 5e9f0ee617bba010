/- The program's isNumeral: whether a text is decimal digits with no zero before another digit. No condition. -/
import Derived.Test.YtdoponlhiidimaaGreatDoorAppd
namespace Go.Proofs.YtdoponlhiidimaaGreatDoor
open Go.RowKit LimbN

/-- byte i of a text. -/
def sb (s : ByteArray) (i : Nat) : Nat := (s.data[i]?.getD 0).toNat
theorem sb_lt (s : ByteArray) (i : Nat) : sb s i < 256 := UInt8.toNat_lt _
theorem idx_str (s : ByteArray) (i : Nat) (h : i < s.size) (w : World) : (Instr.index 9 (.string s) (.int .i64 (i : Int))).run Tryz.prog w = .ok (.int .u8 (sb s i : Nat)) w := by
  rw [run_index_string w 9 s .i64 i Tryz.underlying9, dif_pos (by omega)]
  have e : (s[(i : Int).toNat]'(by omega)).toNat = sb s i := by
    unfold sb
    have h1 : i < s.data.size := h
    rw [Array.getElem?_eq_getElem h1]
    rfl
  rw [e]
/-- decimal digits with no zero before another digit. -/
def Num (s : ByteArray) : Prop := 0 < s.size ∧ ¬ (1 < s.size ∧ sb s 0 = 48) ∧ ∀ i, i < s.size → 48 ≤ sb s i ∧ sb s i ≤ 57

def NumR (s : ByteArray) (w : World) (e : Ending) (w' : World) : Prop := ∃ b : Bool, e = .returned (.bool b) ∧ (b = true ↔ Num s) ∧ Drawn w w'
end Go.Proofs.YtdoponlhiidimaaGreatDoor

/- The program's Parse: the number of a text of decimal digits, or the error. No condition. -/
namespace Go.Proofs.YtdoponlhiidimaaGreatDoor
open Go.RowKit LimbN

/-- the value of the first digits. -/
def pv (s : ByteArray) : Nat → Nat
  | 0 => 0
  | k + 1 => 10 * pv s k + (sb s k - 48)
theorem pv_mono (s : ByteArray) {a b : Nat} (h : a ≤ b) : pv s a ≤ pv s b := by
  induction h with
  | refl => exact Nat.le_refl _
  | step h ih => simp only [pv]; omega
/-- A number as a result, or the error of the limit. -/
structure Got (n : Nat) (w : World) (e : Ending) (w' : World) : Prop where
  kp : Kp w w'
  ok : (limbs n).length ≤ 128 → ∃ v', e = .returned (.tuple #[v', .int .i64 0]) ∧ Sl w' v' (limbs n) ∧ New w.heap.size v'
  over : 128 < (limbs n).length → e = .returned (.tuple #[.slice none 0 0, .int .i64 2])
theorem Got.yes {n : Nat} {w w' : World} {v : Value} (hk : Kp w w') (h : (limbs n).length ≤ 128) (hs : Sl w' v (limbs n)) (hn : New w.heap.size v) : Got n w (.returned (.tuple #[v, .int .i64 0])) w' :=
  ⟨hk, fun _ => ⟨v, rfl, hs, hn⟩, fun h' => by omega⟩
theorem Got.no {n : Nat} {w w' : World} (hk : Kp w w') (h : 128 < (limbs n).length) : Got n w (.returned (.tuple #[.slice none 0 0, .int .i64 2])) w' :=
  ⟨hk, fun h' => by omega, fun _ => rfl⟩
/-- what Parse answers. -/
structure Parsed (s : ByteArray) (w : World) (e : Ending) (w' : World) : Prop where
  long : 1300 < s.size → e = .returned (.tuple #[.slice none 0 0, .int .i64 2]) ∧ Kp w w'
  bad : ¬ 1300 < s.size → ¬ Num s → e = .returned (.tuple #[.slice none 0 0, .int .i64 6]) ∧ Kp w w'
  good : ¬ 1300 < s.size → Num s → Got (pv s s.size) w e w'
theorem Parsed.ofLong {s : ByteArray} {w w' : World} (h : 1300 < s.size) (hk : Kp w w') : Parsed s w (.returned (.tuple #[.slice none 0 0, .int .i64 2])) w' :=
  ⟨fun _ => ⟨rfl, hk⟩, fun h' => absurd h h', fun h' => absurd h h'⟩
theorem Parsed.ofBad {s : ByteArray} {w w' : World} (h : ¬ 1300 < s.size) (hn : ¬ Num s) (hk : Kp w w') : Parsed s w (.returned (.tuple #[.slice none 0 0, .int .i64 6])) w' :=
  ⟨fun h' => absurd h' h, fun _ _ => ⟨rfl, hk⟩, fun _ h' => absurd h' hn⟩
theorem Parsed.ofGood {s : ByteArray} {w w' : World} {e : Ending} (h : ¬ 1300 < s.size) (hn : Num s) (hm : Got (pv s s.size) w e w') : Parsed s w e w' :=
  ⟨fun h' => absurd h' h, fun _ h' => absurd hn h', fun _ _ => hm⟩

end Go.Proofs.YtdoponlhiidimaaGreatDoor
