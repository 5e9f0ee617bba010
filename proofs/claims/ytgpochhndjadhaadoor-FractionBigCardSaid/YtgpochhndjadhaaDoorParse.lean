/- The program's Parse: the number of a text of decimal digits, or the error. No condition. -/
import Derived.Test.YtgpochhndjadhaaDoorNum
namespace Go.Proofs.YtgpochhndjadhaaDoor
open Go.RowKit LimbN

/-- the value of the first digits. -/
def pv (s : ByteArray) : Nat → Nat
  | 0 => 0
  | k + 1 => 10 * pv s k + (sb s k - 48)
theorem pv_mono (s : ByteArray) {a b : Nat} (h : a ≤ b) : pv s a ≤ pv s b := by
  induction h with
  | refl => exact Nat.le_refl _
  | step h ih => simp only [pv]; omega
/-- A number as a result, or the error of the limit. -/
structure Got (n : Nat) (w : World) (e : Ending) (w' : World) : Prop where
  kp : Kp w w'
  ok : (limbs n).length ≤ 128 → ∃ v', e = .returned (.tuple #[v', .int .i64 0]) ∧ Sl w' v' (limbs n) ∧ New w.heap.size v'
  over : 128 < (limbs n).length → e = .returned (.tuple #[.slice none 0 0, .int .i64 2])
theorem Got.yes {n : Nat} {w w' : World} {v : Value} (hk : Kp w w') (h : (limbs n).length ≤ 128) (hs : Sl w' v (limbs n)) (hn : New w.heap.size v) : Got n w (.returned (.tuple #[v, .int .i64 0])) w' :=
  ⟨hk, fun _ => ⟨v, rfl, hs, hn⟩, fun h' => by omega⟩
theorem Got.no {n : Nat} {w w' : World} (hk : Kp w w') (h : 128 < (limbs n).length) : Got n w (.returned (.tuple #[.slice none 0 0, .int .i64 2])) w' :=
  ⟨hk, fun h' => by omega, fun _ => rfl⟩
/-- what Parse answers. -/
structure Parsed (s : ByteArray) (w : World) (e : Ending) (w' : World) : Prop where
  long : 1300 < s.size → e = .returned (.tuple #[.slice none 0 0, .int .i64 2]) ∧ Kp w w'
  bad : ¬ 1300 < s.size → ¬ Num s → e = .returned (.tuple #[.slice none 0 0, .int .i64 6]) ∧ Kp w w'
  good : ¬ 1300 < s.size → Num s → Got (pv s s.size) w e w'
theorem Parsed.ofLong {s : ByteArray} {w w' : World} (h : 1300 < s.size) (hk : Kp w w') : Parsed s w (.returned (.tuple #[.slice none 0 0, .int .i64 2])) w' :=
  ⟨fun _ => ⟨rfl, hk⟩, fun h' => absurd h h', fun h' => absurd h h'⟩
theorem Parsed.ofBad {s : ByteArray} {w w' : World} (h : ¬ 1300 < s.size) (hn : ¬ Num s) (hk : Kp w w') : Parsed s w (.returned (.tuple #[.slice none 0 0, .int .i64 6])) w' :=
  ⟨fun h' => absurd h' h, fun _ _ => ⟨rfl, hk⟩, fun _ h' => absurd h' hn⟩
theorem Parsed.ofGood {s : ByteArray} {w w' : World} {e : Ending} (h : ¬ 1300 < s.size) (hn : Num s) (hm : Got (pv s s.size) w e w') : Parsed s w e w' :=
  ⟨fun h' => absurd h' h, fun _ h' => absurd hn h', fun _ _ => hm⟩

end Go.Proofs.YtgpochhndjadhaaDoor
