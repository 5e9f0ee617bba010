/- The program's take: the next bytes of a frame. Conditions: the state lies in memory as it is named. -/
import Derived.Test.YtlfoikjbbbhbdaaWFrame
namespace Go.Proofs.Ytlfoikjbbbhbdaa
namespace By
open Go.RowKit WireN
set_option linter.unusedVariables false
set_option linter.unusedSimpArgs false

/-- What was read of a frame, in block g. -/
structure St (w : World) (g : Nat) (ao : Option Addr) (len cap b a k n : Nat) (vp : Value) : Prop where
  blk : Blk w g 107 #[.slice ao len cap, .int .i64 (b : Nat), .int .i64 (a : Nat), .int .i64 (k : Nat), .int .i64 (n : Nat), vp]
section
variable {w w' : World} {g : Nat} {ao : Option Addr} {len cap b a k n : Nat} {vp : Value}
theorem St.c0 (h : St w g ao len cap b a k n vp) : w.cell? ⟨g, 0, none⟩ = some (.slice ao len cap) := h.blk.cell 0 rfl
theorem St.c1 (h : St w g ao len cap b a k n vp) : w.cell? ⟨g, 1, none⟩ = some (.int .i64 (b : Nat)) := h.blk.cell 1 rfl
theorem St.c2 (h : St w g ao len cap b a k n vp) : w.cell? ⟨g, 2, none⟩ = some (.int .i64 (a : Nat)) := h.blk.cell 2 rfl
theorem St.c3 (h : St w g ao len cap b a k n vp) : w.cell? ⟨g, 3, none⟩ = some (.int .i64 (k : Nat)) := h.blk.cell 3 rfl
theorem St.c4 (h : St w g ao len cap b a k n vp) : w.cell? ⟨g, 4, none⟩ = some (.int .i64 (n : Nat)) := h.blk.cell 4 rfl
theorem St.c5 (h : St w g ao len cap b a k n vp) : w.cell? ⟨g, 5, none⟩ = some vp := h.blk.cell 5 rfl
theorem St.drewN (h : St w g ao len cap b a k n vp) (m : Nat) : St (w.drewN m) g ao len cap b a k n vp := ⟨h.blk.drewN m⟩
theorem St.keep (h : St w g ao len cap b a k n vp) (hk : Kp w w') : St w' g ao len cap b a k n vp := ⟨h.blk.keep hk⟩
theorem St.set2 (h : St w g ao len cap b a k n vp) (a' : Nat) {A : Int} (hA : A = a') : St (w.setCell ⟨g, 2, none⟩ (.int .i64 A)) g ao len cap b a' k n vp := by subst hA; exact ⟨h.blk.set 2 _⟩
theorem St.set3 (h : St w g ao len cap b a k n vp) (k' : Nat) {A : Int} (hA : A = k') : St (w.setCell ⟨g, 3, none⟩ (.int .i64 A)) g ao len cap b a k' n vp := by subst hA; exact ⟨h.blk.set 3 _⟩
theorem St.set4 (h : St w g ao len cap b a k n vp) (n' : Nat) {A : Int} (hA : A = n') : St (w.setCell ⟨g, 4, none⟩ (.int .i64 A)) g ao len cap b a k n' vp := by subst hA; exact ⟨h.blk.set 4 _⟩
theorem St.set5 (h : St w g ao len cap b a k n vp) (vp' : Value) : St (w.setCell ⟨g, 5, none⟩ vp') g ao len cap b a k n vp' := ⟨h.blk.set 5 _⟩
end

set_option maxRecDepth 100000 in
set_option maxHeartbeats 1000000 in
theorem take_end {w : World} {g : Nat} {ao : Option Addr} {len cap b a k n : Nat} {vp : Value} (hst : St w g ao len cap b a k n vp) (ha : a ≤ len) (hl : len ≤ 140737488355328) (m : Nat) (hm : m ≤ 140737488355328) (h : len < a + m) :
    Calls Try.prog 71 #[.pointer (some ⟨g, 0, none⟩), .int .i64 m] w fun e w' => e = .returned (.tuple #[.slice none 0 0, .int .i64 7]) ∧ Only g w w' := by
  have c0 := hst.c0; have c2 := hst.c2
  clear hst
  go_enter Try.func71, Try.ntmps71
  go_wp2_with fail
  go_quiet (fail)
  go_wp2_with fail
  go_ret2
  exact ⟨rfl, Only.drewN (Only.refl _ _) _⟩

set_option maxRecDepth 100000 in
set_option maxHeartbeats 1000000 in
theorem take_end' {w : World} {g : Nat} {ao : Option Addr} {len cap b a k n : Nat} {vp : Value} (hst : St w g ao len cap b a k n vp) (ha : a ≤ len) (hl : len ≤ 140737488355328) (m : Nat) (hm : m ≤ 140737488355328) (h : len < a + m) :
    Calls Try.prog 71 #[.pointer (some ⟨g, 0, none⟩), .int .i64 m] w fun e w' => e = .returned (.tuple #[.slice none 0 0, .int .i64 7]) ∧ St w' g ao len cap b a k n vp ∧ Only g w w' := by
  have c0 := hst.c0; have c2 := hst.c2
  have HST := Lib.hid hst; clear hst
  go_enter Try.func71, Try.ntmps71
  go_wp2_with fail
  go_quiet (fail)
  go_wp2_with fail
  go_ret2
  exact ⟨rfl, HST.out.drewN _, Only.drewN (Only.refl _ _) _⟩

set_option maxRecDepth 100000 in
set_option maxHeartbeats 1000000 in
theorem take_ok {w : World} {g : Nat} {ao : Option Addr} {len cap b a k n : Nat} {vp : Value} (hst : St w g ao len cap b a k n vp) (hl : len ≤ 140737488355328) (m : Nat) (h : a + m ≤ len) (hc : len ≤ cap) (hcm : cap ≤ maxLen) {bo : Option Addr} {bc : Nat}
    (hV : sliced ao a (a + m) cap 1 = .slice bo m bc) :
    Calls Try.prog 71 #[.pointer (some ⟨g, 0, none⟩), .int .i64 m] w fun e w' => e = .returned (.tuple #[.slice bo m bc, .int .i64 0]) ∧ St w' g ao len cap b (a + m) k n vp ∧ Only g w w' := by
  have c0 := hst.c0; have c2 := hst.c2; have f2 := hst.blk.free 2
  have hsl := fun w => slice_span ao len cap a (a + m) (a : Int) ((a : Int) + (m : Int)) rfl (by omega) (by omega) (by omega) w
  rw [hV] at hsl
  have HST := Lib.hid hst
  unfold maxLen at hcm
  clear hst hV
  go_enter Try.func71, Try.ntmps71
  go_wp2_with fail
  go_quiet (fail)
  go_wp2_with fail
  go_quiet (fail)
  go_wp2_with fail
  go_ret2
  exact ⟨rfl, ((HST.out.drewN _).set2 (a + m) (by omega)).drewN _, Only.drewN (Only.set (Only.drewN (Only.refl _ _) _) _ _) _⟩
end By
end Go.Proofs.Ytlfoikjbbbhbdaa
