/- The library's SortFunc at no more than twelve keys. Conditions: the keys lie in a row of the call's own, or there are none; Compare answers the order. -/
import Derived.Test.YtpgnckjgclbepaaDoorKyS
import Derived.Test.YtpgnckjgclbepaaDoorShelf
namespace Go.Proofs.YtpgnckjgclbepaaDoor
namespace By
open Go.RowKit WireN LexN RevN KeyN
set_option linter.unusedVariables false
set_option linter.unusedSimpArgs false

/-- A slice of keys of the call's own: nil, or a row from its beginning. -/
def SK (w : World) (v : Value) (ks : List Ky) (g : Nat) : Prop := (v = .slice none 0 0 ∧ ks = []) ∨ ∃ cap, v = .slice (some ⟨g, 0, none⟩) ks.length cap ∧ ks.length ≤ cap ∧ cap ≤ maxLen ∧ RK w g ks
set_option maxRecDepth 100000 in
set_option maxHeartbeats 1000000 in
theorem insertionSort_nil (w : World) : Calls Tryd.prog 66 #[.slice none 0 0, .int .i64 0, .int .i64 0, .func (.func 36) #[] #[]] w fun e w' => e = .returned (.tuple #[]) ∧ w = w' := by
  go_enter Tryd.func66, Tryd.ntmps66
  go_wp2_with fail
  refine wp_loop_rounds 1 ?_
  rw [rounds_succ]
  go_wp2_with fail
  go_end0
  exact ⟨rfl, rfl⟩
set_option maxRecDepth 100000 in
set_option maxHeartbeats 1000000 in
theorem pdqsort_k {w : World} {g n cap : Nat} {ks : List Ky} (hC : CmpAns) (hr : RK w g ks) (hn : ks.length = n) (hcap : n ≤ cap) (hn2 : n ≤ 12) (hok : ∀ x ∈ ks, KyOk x) (lim : Int) :
    Calls Tryd.prog 59 #[.slice (some ⟨g, 0, none⟩) n cap, .int .i64 0, .int .i64 (n : Nat), .int .i64 lim, .func (.func 36) #[] #[]] w fun e w' => e = .returned (.tuple #[]) ∧ ∃ ys, ys.length = n ∧ (∀ y, y ∈ ys ↔ y ∈ ks) ∧ SrtK ys n ∧ RK w' g ys ∧ Gr g w w' := by
  have HI := Lib.hid (insertionSort_k hC hr hn hcap (by omega) hok)
  have hni : (n : Int) ≤ 12 := by omega
  clear hC hr hn hcap hok hn2
  go_enter Tryd.func59, Tryd.ntmps59
  go_wp2_with fail
  refine wp_loop_rounds 1 ?_
  rw [rounds_succ]
  go_wp2_with fail
  refine HI.out.mono ?_
  rintro e w1 ⟨rfl, ys, h1, h2, h3, h4, h5⟩
  have HY := Lib.hid h1; have HM := Lib.hid h2; have HS := Lib.hid h3; have HR := Lib.hid h4; have HG := Lib.hid h5
  clear h1 h2 h3 h4 h5
  go_wp2_with fail
  (try simp only [Exit.inBlock, Exit.then]); refine bodyPost_ret (results_none rfl _ _ _) rfl ?_
  exact ⟨rfl, ys, HY.out, HM.out, HS.out, HR.out, HG.out⟩
set_option maxRecDepth 100000 in
set_option maxHeartbeats 1000000 in
theorem pdqsort_nil (w : World) (lim : Int) : Calls Tryd.prog 59 #[.slice none 0 0, .int .i64 0, .int .i64 0, .int .i64 lim, .func (.func 36) #[] #[]] w fun e w' => e = .returned (.tuple #[]) ∧ w = w' := by
  go_enter Tryd.func59, Tryd.ntmps59
  go_wp2_with fail
  refine wp_loop_rounds 1 ?_
  rw [rounds_succ]
  go_wp2_with fail
  refine (insertionSort_nil _).mono ?_
  rintro e w1 ⟨rfl, rfl⟩
  go_wp2_with fail
  (try simp only [Exit.inBlock, Exit.then]); refine bodyPost_ret (results_none rfl _ _ _) rfl ?_
  exact ⟨rfl, rfl⟩
theorem bits_k (n : Nat) (h : n ≤ 12) (W : World) : Calls Tryd.prog 60 #[.int .u64 (n : Nat)] W fun e w' => (∃ l : Int, e = .returned (.int .i64 l)) ∧ W = w' :=
  (Tryd.bits_Len (n : Int) W (by omega) (by omega)).mono fun _ _ ⟨he, hw⟩ => ⟨⟨_, he⟩, hw.symm⟩
set_option maxRecDepth 100000 in
set_option maxHeartbeats 1000000 in
theorem SortFunc_k {w : World} {v : Value} {g n : Nat} {ks : List Ky} (hC : CmpAns) (hr : SK w v ks g) (hn : ks.length = n) (hn2 : n ≤ 12) (hok : ∀ x ∈ ks, KyOk x) :
    Calls Tryd.prog 47 #[v, .func (.func 36) #[] #[]] w fun e w' => e = .returned (.tuple #[]) ∧ ∃ ys, ys.length = n ∧ (∀ y, y ∈ ys ↔ y ∈ ks) ∧ SrtK ys n ∧ SK w' v ys g ∧ Gr g w w' := by
  have hni : (n : Int) ≤ 12 := by omega
  have HB := Lib.hid (fun W => bits_k n hn2 W)
  rcases hr with ⟨rfl, rfl⟩ | ⟨cap, rfl, hcap, hmx, hrk⟩
  · obtain rfl : n = 0 := by simpa using hn.symm
    clear hn hok hC
    go_enter Tryd.func47, Tryd.ntmps47
    go_wp2_with fail
    refine (HB.out _).mono ?_
    rintro e w1 ⟨⟨l, rfl⟩, rfl⟩
    go_wp2_with fail
    refine (pdqsort_nil _ _).mono ?_
    rintro e w1 ⟨rfl, rfl⟩
    go_wp2_with fail
    go_end0
    exact ⟨rfl, [], rfl, fun _ => Iff.rfl, SrtK.zero _, .inl ⟨rfl, rfl⟩, Gr.refl _ _⟩
  · have HP := Lib.hid (fun lim => pdqsort_k hC hrk hn (by omega : n ≤ cap) hn2 hok lim)
    have HCP : Hid (n ≤ cap ∧ cap ≤ maxLen) := Lib.hid ⟨by omega, hmx⟩
    have hci : (n : Int) ≤ (cap : Int) := by omega
    have hwr : IntKind.u64.wrap (n : Int) = (n : Int) := by simp [IntKind.wrap, IntKind.bits, IntKind.signed]; omega
    rw [hn]
    clear hrk hn hcap hmx hn2 hok hC
    go_enter Tryd.func47, Tryd.ntmps47
    go_wp2_with fail
    refine (HB.out _).mono ?_
    rintro e w1 ⟨⟨l, rfl⟩, rfl⟩
    go_wp2_with fail
    refine (HP.out _).mono ?_
    rintro e w1 ⟨rfl, ys, h1, h2, h3, h4, h5⟩
    have HY := Lib.hid h1; have HM := Lib.hid h2; have HS := Lib.hid h3; have HR := Lib.hid h4; have HG := Lib.hid h5
    clear h1 h2 h3 h4 h5
    go_wp2_with fail
    go_end0
    exact ⟨rfl, ys, HY.out, HM.out, HS.out, .inr ⟨cap, by rw [HY.out], by rw [HY.out]; exact HCP.out.1, HCP.out.2, HR.out⟩, HG.out⟩
end By
end Go.Proofs.YtpgnckjgclbepaaDoor
