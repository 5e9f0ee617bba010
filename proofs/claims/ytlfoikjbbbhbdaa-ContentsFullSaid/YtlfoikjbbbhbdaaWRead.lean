/- The program's readers of the parts of a frame. Conditions: the state lies in memory as it is named, and what it reads lies elsewhere. -/
import Derived.Test.YtlfoikjbbbhbdaaWTake
namespace Go.Proofs.Ytlfoikjbbbhbdaa
namespace By
open Go.RowKit WireN
set_option linter.unusedVariables false
set_option linter.unusedSimpArgs false

/-- What is read: bytes that do not lie in block g. -/
structure Ctx (w : World) (g : Nat) (ao : Option Addr) (len cap : Nat) (xs : List Nat) : Prop where
  sl : Sl w (.slice ao len cap) xs
  off : Off g (.slice ao len cap) xs
section
variable {w w' : World} {g : Nat} {ao : Option Addr} {len cap : Nat} {xs : List Nat}
theorem Ctx.only (h : Ctx w g ao len cap xs) (ho : Only g w w') : Ctx w' g ao len cap xs := ⟨h.sl.only ho h.off, h.off⟩
theorem Ctx.keep (h : Ctx w g ao len cap xs) (ho : Kp w w') : Ctx w' g ao len cap xs := ⟨h.sl.keep ho, h.off⟩
theorem Ctx.facts (h : Ctx w g ao len cap xs) : len = xs.length ∧ len ≤ cap ∧ cap ≤ maxLen ∧ len ≤ 140737488355328 := by
  obtain ⟨ao', cap', e, h1, h2, h3⟩ := h.sl.open3
  simp only [Value.slice.injEq] at e
  obtain ⟨-, e2, e3⟩ := e
  have := h.sl.sm
  omega
theorem Ctx.part (h : Ctx w g ao len cap xs) (a m : Nat) (hm : a + m ≤ len) :
    ∃ bo bc, sliced ao a (a + m) cap 1 = .slice bo m bc ∧ ∀ w', Only g w w' → Sl w' (.slice bo m bc) ((xs.drop a).take m) := by
  have key : ∀ w', Only g w w' → Sl w' (sliced ao a (a + m) cap 1) ((xs.drop a).take m) := by
    intro w' ho
    have := (h.only ho).sl.cut a (a + m) (by omega) hm
    rwa [List.drop_take, show a + m - a = m by omega] at this
  have e : sliced ao a (a + m) cap 1 = .slice (if cap = a then ao else ao.map (·.add (a * 1))) m (cap - a) := by
    unfold sliced; rw [show a + m - a = m by omega]
  exact ⟨_, _, e, fun w' ho => by have := key w' ho; rwa [e] at this⟩
end
theorem one_take {xs : List Nat} {a : Nat} (h : a < xs.length) : (xs.drop a).take 1 = [xs[a]?.getD 0] := by
  rw [List.drop_eq_getElem_cons h, List.getElem?_eq_getElem h]; rfl

section
variable {w : World} {g : Nat} {ao : Option Addr} {len cap b a k n : Nat} {vp : Value} {xs : List Nat}
set_option maxRecDepth 100000 in
set_option maxHeartbeats 1000000 in
theorem mark_end (hst : St w g ao len cap b a k n vp) (hc : Ctx w g ao len cap xs) (h : a = len) :
    Calls Try.prog 66 #[.pointer (some ⟨g, 0, none⟩)] w fun e w' => e = .returned (.int .i64 7) ∧ Only g w w' := by
  obtain ⟨-, -, -, hl⟩ := hc.facts
  have HST := Lib.hid hst
  clear hst hc
  go_enter Try.func66, Try.ntmps66
  go_wp2_with fail
  refine (take_end HST.out (by omega) hl 1 (by omega) (by omega)).mono ?_
  rintro e w1 ⟨rfl, ho⟩
  have HO := Lib.hid ho; clear ho
  go_wp2_with fail
  go_ret
  exact ⟨rfl, HO.out⟩
set_option maxRecDepth 100000 in
set_option maxHeartbeats 1000000 in
theorem mark_text (hst : St w g ao len cap b a k n vp) (hc : Ctx w g ao len cap xs) (h : a < len) {x : Nat} (hx : xs[a]?.getD 0 = x) (hne : x ≠ 247) :
    Calls Try.prog 66 #[.pointer (some ⟨g, 0, none⟩)] w fun e w' => e = .returned (.int .i64 6) ∧ Only g w w' := by
  obtain ⟨hlx, hlc, hcm, hl⟩ := hc.facts
  obtain ⟨bo, bc, hV, hsl⟩ := hc.part a 1 h
  rw [one_take (by omega), hx] at hsl
  have HST := Lib.hid hst; have HSL := Lib.hid hsl; have HV := Lib.hid hV; have HCM := Lib.hid hcm
  have hxb : (((x : Nat) : Int) == 247) = false := beq_eq_false_iff_ne.2 (by omega)
  have hxb' : (((x : Nat) : Int) != 247) = true := by simp [bne, hxb]
  clear hst hc hsl hV hne hlx hcm
  go_enter Try.func66, Try.ntmps66
  go_wp2_with fail
  refine (take_ok HST.out hl 1 h hlc HCM.out HV.out).mono ?_
  rintro e w1 ⟨rfl, -, ho⟩
  obtain ⟨b', off, rfl, hcell⟩ := sl_cell (HSL.out w1 ho) (by omega)
  have c := hcell 0 (by omega)
  rw [Nat.add_zero] at c
  simp only [List.getElem?_cons_zero, Option.getD_some] at c
  have HO := Lib.hid ho; clear ho hcell
  go_wp2_with fail
  go_ret
  exact ⟨rfl, HO.out⟩
set_option maxRecDepth 100000 in
set_option maxHeartbeats 1000000 in
theorem mark_ok (hst : St w g ao len cap b a k n vp) (hc : Ctx w g ao len cap xs) (h : a < len) (hx : xs[a]?.getD 0 = 247) :
    Calls Try.prog 66 #[.pointer (some ⟨g, 0, none⟩)] w fun e w' => e = .returned (.int .i64 0) ∧ St w' g ao len cap b (a + 1) k n vp ∧ Only g w w' := by
  obtain ⟨hlx, hlc, hcm, hl⟩ := hc.facts
  obtain ⟨bo, bc, hV, hsl⟩ := hc.part a 1 h
  rw [one_take (by omega), hx] at hsl
  have HST := Lib.hid hst; have HSL := Lib.hid hsl; have HV := Lib.hid hV; have HCM := Lib.hid hcm
  clear hst hc hsl hV hlx hx hcm
  go_enter Try.func66, Try.ntmps66
  go_wp2_with fail
  refine (take_ok HST.out hl 1 h hlc HCM.out HV.out).mono ?_
  rintro e w1 ⟨rfl, hst1, ho⟩
  obtain ⟨b', off, rfl, hcell⟩ := sl_cell (HSL.out w1 ho) (by omega)
  have c := hcell 0 (by omega)
  rw [Nat.add_zero] at c
  simp only [List.getElem?_cons_zero, Option.getD_some] at c
  have HO := Lib.hid ho; have HST1 := Lib.hid hst1; clear ho hcell hst1
  go_wp2_with fail
  go_ret
  exact ⟨rfl, HST1.out, HO.out⟩

set_option maxRecDepth 100000 in
set_option maxHeartbeats 1000000 in
theorem kind_end (hst : St w g ao len cap b a k n vp) (hc : Ctx w g ao len cap xs) (h : a = len) :
    Calls Try.prog 67 #[.pointer (some ⟨g, 0, none⟩)] w fun e w' => e = .returned (.int .i64 7) ∧ Only g w w' := by
  obtain ⟨-, -, -, hl⟩ := hc.facts
  have HST := Lib.hid hst
  clear hst hc
  go_enter Try.func67, Try.ntmps67
  go_wp2_with fail
  refine (take_end HST.out (by omega) hl 1 (by omega) (by omega)).mono ?_
  rintro e w1 ⟨rfl, ho⟩
  have HO := Lib.hid ho; clear ho
  go_wp2_with fail
  go_ret
  exact ⟨rfl, HO.out⟩
set_option maxRecDepth 100000 in
set_option maxHeartbeats 1000000 in
theorem kind_text (hst : St w g ao len cap b a k n vp) (hc : Ctx w g ao len cap xs) (h : a < len) (hx : xs[a]?.getD 0 = 0) :
    Calls Try.prog 67 #[.pointer (some ⟨g, 0, none⟩)] w fun e w' => e = .returned (.int .i64 6) ∧ Only g w w' := by
  obtain ⟨hlx, hlc, hcm, hl⟩ := hc.facts
  obtain ⟨bo, bc, hV, hsl⟩ := hc.part a 1 h
  rw [one_take (by omega), hx] at hsl
  have HST := Lib.hid hst; have HSL := Lib.hid hsl; have HV := Lib.hid hV; have HCM := Lib.hid hcm
  clear hst hc hsl hV hlx hx hcm
  go_enter Try.func67, Try.ntmps67
  go_wp2_with fail
  refine (take_ok HST.out hl 1 h hlc HCM.out HV.out).mono ?_
  rintro e w1 ⟨rfl, -, ho⟩
  obtain ⟨b', off, rfl, hcell⟩ := sl_cell (HSL.out w1 ho) (by omega)
  have c := hcell 0 (by omega)
  rw [Nat.add_zero] at c
  simp only [List.getElem?_cons_zero, Option.getD_some] at c
  have HO := Lib.hid ho; clear ho hcell
  go_wp2_with fail
  go_ret
  exact ⟨rfl, HO.out⟩
set_option maxRecDepth 100000 in
set_option maxHeartbeats 1000000 in
theorem kind_ok (hst : St w g ao len cap b a k n vp) (hc : Ctx w g ao len cap xs) (h : a < len) {x : Nat} (hx : xs[a]?.getD 0 = x) (hne : x ≠ 0) :
    Calls Try.prog 67 #[.pointer (some ⟨g, 0, none⟩)] w fun e w' => e = .returned (.int .i64 0) ∧ St w' g ao len cap b (a + 1) x n vp ∧ Only g w w' := by
  obtain ⟨hlx, hlc, hcm, hl⟩ := hc.facts
  have hxl := hc.sl.lt a
  rw [hx] at hxl
  obtain ⟨bo, bc, hV, hsl⟩ := hc.part a 1 h
  rw [one_take (by omega), hx] at hsl
  have HST := Lib.hid hst; have HSL := Lib.hid hsl; have HV := Lib.hid hV; have HCM := Lib.hid hcm
  have hxb : (((x : Nat) : Int) == 0) = false := beq_eq_false_iff_ne.2 (by omega)
  clear hst hc hsl hV hne hlx hcm hx
  go_enter Try.func67, Try.ntmps67
  go_wp2_with fail
  refine (take_ok HST.out hl 1 h hlc HCM.out HV.out).mono ?_
  rintro e w1 ⟨rfl, hst1, ho⟩
  obtain ⟨b', off, rfl, hcell⟩ := sl_cell (HSL.out w1 ho) (by omega)
  have c := hcell 0 (by omega)
  rw [Nat.add_zero] at c
  simp only [List.getElem?_cons_zero, Option.getD_some] at c
  have c3 := hst1.c3; have f3 := hst1.blk.free 3
  have HO := Lib.hid ho; have HST1 := Lib.hid hst1; clear ho hcell hst1
  go_wp2_with fail
  go_ret
  exact ⟨rfl, HST1.out.set3 x (by omega), Only.set HO.out _ _⟩
end
end By
end Go.Proofs.Ytlfoikjbbbhbdaa
