/- The lists of names that programs use. Condition: the block of the tape is there. -/
import Derived.Test.YtpgnckjgclbepaaDoorMk
namespace Go.Proofs.YtpgnckjgclbepaaDoor
namespace By
open Go.RowKit WireN LexN
set_option linter.unusedVariables false
set_option linter.unusedSimpArgs false

set_option maxRecDepth 100000 in
set_option maxHeartbeats 400000 in
theorem Functions_q (g : Nat) (w : World) (hg : g < w.heap.size) : Calls Tryd.prog 19 #[] w fun e w' => ∃ v, e = .returned v ∧ Ps g w' v [⟨#[102]⟩, ⟨#[103]⟩, ⟨#[104]⟩, ⟨#[107]⟩] ∧ Kp w w' := by
  have HB : Hid (Blk (w.alloc (.cells #[.string ⟨#[102]⟩, .string ⟨#[103]⟩, .string ⟨#[104]⟩, .string ⟨#[107]⟩] 9)) w.heap.size 9 (([⟨#[102]⟩, ⟨#[103]⟩, ⟨#[104]⟩, ⟨#[107]⟩] : List ByteArray).map Value.string).toArray) := Lib.hid (Blk.new _ _ _)
  have HK := Lib.hid (kp_alloc w (.cells #[.string ⟨#[102]⟩, .string ⟨#[103]⟩, .string ⟨#[104]⟩, .string ⟨#[107]⟩] 9))
  have HNE : Hid (w.heap.size ≠ g) := Lib.hid (by omega)
  clear hg
  go_enter Tryd.func19, Tryd.ntmps19
  go_wp2_with fail
  go_ret
  exact ⟨_, rfl, Ps.blk HB.out HNE.out (by decide) (by decide), HK.out⟩
set_option maxRecDepth 100000 in
set_option maxHeartbeats 400000 in
theorem Packages_q (g : Nat) (w : World) (hg : g < w.heap.size) : Calls Tryd.prog 18 #[] w fun e w' => ∃ v, e = .returned v ∧ Ps g w' v [⟨#[112]⟩, ⟨#[113]⟩, ⟨#[115]⟩] ∧ Kp w w' := by
  have HB : Hid (Blk (w.alloc (.cells #[.string ⟨#[112]⟩, .string ⟨#[113]⟩, .string ⟨#[115]⟩] 9)) w.heap.size 9 (([⟨#[112]⟩, ⟨#[113]⟩, ⟨#[115]⟩] : List ByteArray).map Value.string).toArray) := Lib.hid (Blk.new _ _ _)
  have HK := Lib.hid (kp_alloc w (.cells #[.string ⟨#[112]⟩, .string ⟨#[113]⟩, .string ⟨#[115]⟩] 9))
  have HNE : Hid (w.heap.size ≠ g) := Lib.hid (by omega)
  clear hg
  go_enter Tryd.func18, Tryd.ntmps18
  go_wp2_with fail
  go_ret
  exact ⟨_, rfl, Ps.blk HB.out HNE.out (by decide) (by decide), HK.out⟩
set_option maxRecDepth 100000 in
set_option maxHeartbeats 400000 in
theorem Tests_q (g : Nat) (w : World) (hg : g < w.heap.size) : Calls Tryd.prog 20 #[] w fun e w' => ∃ v, e = .returned v ∧ Ps g w' v [⟨#[116]⟩, ⟨#[117]⟩, ⟨#[118]⟩] ∧ Kp w w' := by
  have HB : Hid (Blk (w.alloc (.cells #[.string ⟨#[116]⟩, .string ⟨#[117]⟩, .string ⟨#[118]⟩] 9)) w.heap.size 9 (([⟨#[116]⟩, ⟨#[117]⟩, ⟨#[118]⟩] : List ByteArray).map Value.string).toArray) := Lib.hid (Blk.new _ _ _)
  have HK := Lib.hid (kp_alloc w (.cells #[.string ⟨#[116]⟩, .string ⟨#[117]⟩, .string ⟨#[118]⟩] 9))
  have HNE : Hid (w.heap.size ≠ g) := Lib.hid (by omega)
  clear hg
  go_enter Tryd.func20, Tryd.ntmps20
  go_wp2_with fail
  go_ret
  exact ⟨_, rfl, Ps.blk HB.out HNE.out (by decide) (by decide), HK.out⟩
set_option maxRecDepth 100000 in
set_option maxHeartbeats 400000 in
theorem Paths_q (g : Nat) (w : World) (hg : g < w.heap.size) : Calls Tryd.prog 21 #[] w fun e w' => ∃ v, e = .returned v ∧ Ps g w' v [⟨#[97, 46, 100, 97, 116]⟩, ⟨#[100, 47, 98, 46, 100, 97, 116]⟩, ⟨#[99]⟩, ⟨#[97, 46, 115, 114, 99]⟩, ⟨#[120, 46, 115, 114, 99]⟩] ∧ Kp w w' := by
  have HB : Hid (Blk (w.alloc (.cells #[.string ⟨#[97, 46, 100, 97, 116]⟩, .string ⟨#[100, 47, 98, 46, 100, 97, 116]⟩, .string ⟨#[99]⟩, .string ⟨#[97, 46, 115, 114, 99]⟩, .string ⟨#[120, 46, 115, 114, 99]⟩] 9)) w.heap.size 9 (([⟨#[97, 46, 100, 97, 116]⟩, ⟨#[100, 47, 98, 46, 100, 97, 116]⟩, ⟨#[99]⟩, ⟨#[97, 46, 115, 114, 99]⟩, ⟨#[120, 46, 115, 114, 99]⟩] : List ByteArray).map Value.string).toArray) := Lib.hid (Blk.new _ _ _)
  have HK := Lib.hid (kp_alloc w (.cells #[.string ⟨#[97, 46, 100, 97, 116]⟩, .string ⟨#[100, 47, 98, 46, 100, 97, 116]⟩, .string ⟨#[99]⟩, .string ⟨#[97, 46, 115, 114, 99]⟩, .string ⟨#[120, 46, 115, 114, 99]⟩] 9))
  have HNE : Hid (w.heap.size ≠ g) := Lib.hid (by omega)
  clear hg
  go_enter Tryd.func21, Tryd.ntmps21
  go_wp2_with fail
  go_ret
  exact ⟨_, rfl, Ps.blk HB.out HNE.out (by decide) (by decide), HK.out⟩
set_option maxRecDepth 100000 in
set_option maxHeartbeats 400000 in
theorem Variables_q (g : Nat) (w : World) (hg : g < w.heap.size) : Calls Tryd.prog 22 #[] w fun e w' => ∃ v, e = .returned v ∧ Ps g w' v [⟨#[110]⟩, ⟨#[109]⟩] ∧ Kp w w' := by
  have HB : Hid (Blk (w.alloc (.cells #[.string ⟨#[110]⟩, .string ⟨#[109]⟩] 9)) w.heap.size 9 (([⟨#[110]⟩, ⟨#[109]⟩] : List ByteArray).map Value.string).toArray) := Lib.hid (Blk.new _ _ _)
  have HK := Lib.hid (kp_alloc w (.cells #[.string ⟨#[110]⟩, .string ⟨#[109]⟩] 9))
  have HNE : Hid (w.heap.size ≠ g) := Lib.hid (by omega)
  clear hg
  go_enter Tryd.func22, Tryd.ntmps22
  go_wp2_with fail
  go_ret
  exact ⟨_, rfl, Ps.blk HB.out HNE.out (by decide) (by decide), HK.out⟩
end By
end Go.Proofs.YtpgnckjgclbepaaDoor
