/- The program's take: the next bytes of a frame. Conditions: the state lies in memory as it is named. -/
import Derived.Test.YtlfoikjbbbhbdaaWFrame
import Derived.Lib.BufferMore
import Derived.Laws.EntriesVeiled
namespace Go.Proofs.Ytlfoikjbbbhbdaa
namespace By
open Go.RowKit WireN
set_option linter.unusedVariables false
set_option linter.unusedSimpArgs false

/-- What was read of a frame, in block g. -/
structure St (w : World) (g : Nat) (ao : Option Addr) (len cap b a k n : Nat) (vp : Value) : Prop where
  blk : Blk w g 107 #[.slice ao len cap, .int .i64 (b : Nat), .int .i64 (a : Nat), .int .i64 (k : Nat), .int .i64 (n : Nat), vp]
section
variable {w w' : World} {g : Nat} {ao : Option Addr} {len cap b a k n : Nat} {vp : Value}
theorem St.c0 (h : St w g ao len cap b a k n vp) : w.cell? ⟨g, 0, none⟩ = some (.slice ao len cap) := h.blk.cell 0 rfl
theorem St.c1 (h : St w g ao len cap b a k n vp) : w.cell? ⟨g, 1, none⟩ = some (.int .i64 (b : Nat)) := h.blk.cell 1 rfl
theorem St.c2 (h : St w g ao len cap b a k n vp) : w.cell? ⟨g, 2, none⟩ = some (.int .i64 (a : Nat)) := h.blk.cell 2 rfl
theorem St.c3 (h : St w g ao len cap b a k n vp) : w.cell? ⟨g, 3, none⟩ = some (.int .i64 (k : Nat)) := h.blk.cell 3 rfl
theorem St.c4 (h : St w g ao len cap b a k n vp) : w.cell? ⟨g, 4, none⟩ = some (.int .i64 (n : Nat)) := h.blk.cell 4 rfl
theorem St.c5 (h : St w g ao len cap b a k n vp) : w.cell? ⟨g, 5, none⟩ = some vp := h.blk.cell 5 rfl
theorem St.drewN (h : St w g ao len cap b a k n vp) (m : Nat) : St (w.drewN m) g ao len cap b a k n vp := ⟨h.blk.drewN m⟩
theorem St.keep (h : St w g ao len cap b a k n vp) (hk : Kp w w') : St w' g ao len cap b a k n vp := ⟨h.blk.keep hk⟩
theorem St.set2 (h : St w g ao len cap b a k n vp) (a' : Nat) {A : Int} (hA : A = a') : St (w.setCell ⟨g, 2, none⟩ (.int .i64 A)) g ao len cap b a' k n vp := by subst hA; exact ⟨h.blk.set 2 _⟩
theorem St.set3 (h : St w g ao len cap b a k n vp) (k' : Nat) {A : Int} (hA : A = k') : St (w.setCell ⟨g, 3, none⟩ (.int .i64 A)) g ao len cap b a k' n vp := by subst hA; exact ⟨h.blk.set 3 _⟩
theorem St.set4 (h : St w g ao len cap b a k n vp) (n' : Nat) {A : Int} (hA : A = n') : St (w.setCell ⟨g, 4, none⟩ (.int .i64 A)) g ao len cap b a k n' vp := by subst hA; exact ⟨h.blk.set 4 _⟩
theorem St.set5 (h : St w g ao len cap b a k n vp) (vp' : Value) : St (w.setCell ⟨g, 5, none⟩ vp') g ao len cap b a k n vp' := ⟨h.blk.set 5 _⟩
end

set_option maxRecDepth 100000 in
set_option maxHeartbeats 1000000 in
theorem take_end {w : World} {g : Nat} {ao : Option Addr} {len cap b a k n : Nat} {vp : Value} (hst : St w g ao len cap b a k n vp) (ha : a ≤ len) (hl : len ≤ 140737488355328) (m : Nat) (hm : m ≤ 140737488355328) (h : len < a + m) :
    Calls Try.prog 71 #[.pointer (some ⟨g, 0, none⟩), .int .i64 m] w fun e w' => e = .returned (.tuple #[.slice none 0 0, .int .i64 7]) ∧ Only g w w' := by
  have c0 := hst.c0; have c2 := hst.c2
  clear hst
  go_enter Try.func71, Try.ntmps71
  go_wp2_with fail
  go_quiet (fail)
  go_wp2_with fail
  go_ret2
  exact ⟨rfl, Only.drewN (Only.refl _ _) _⟩

set_option maxRecDepth 100000 in
set_option maxHeartbeats 1000000 in
theorem take_end' {w : World} {g : Nat} {ao : Option Addr} {len cap b a k n : Nat} {vp : Value} (hst : St w g ao len cap b a k n vp) (ha : a ≤ len) (hl : len ≤ 140737488355328) (m : Nat) (hm : m ≤ 140737488355328) (h : len < a + m) :
    Calls Try.prog 71 #[.pointer (some ⟨g, 0, none⟩), .int .i64 m] w fun e w' => e = .returned (.tuple #[.slice none 0 0, .int .i64 7]) ∧ St w' g ao len cap b a k n vp ∧ Only g w w' := by
  have c0 := hst.c0; have c2 := hst.c2
  have HST := Lib.hid hst; clear hst
  go_enter Try.func71, Try.ntmps71
  go_wp2_with fail
  go_quiet (fail)
  go_wp2_with fail
  go_ret2
  exact ⟨rfl, HST.out.drewN _, Only.drewN (Only.refl _ _) _⟩

set_option maxRecDepth 100000 in
set_option maxHeartbeats 1000000 in
theorem take_ok {w : World} {g : Nat} {ao : Option Addr} {len cap b a k n : Nat} {vp : Value} (hst : St w g ao len cap b a k n vp) (hl : len ≤ 140737488355328) (m : Nat) (h : a + m ≤ len) (hc : len ≤ cap) (hcm : cap ≤ maxLen) {bo : Option Addr} {bc : Nat}
    (hV : sliced ao a (a + m) cap 1 = .slice bo m bc) :
    Calls Try.prog 71 #[.pointer (some ⟨g, 0, none⟩), .int .i64 m] w fun e w' => e = .returned (.tuple #[.slice bo m bc, .int .i64 0]) ∧ St w' g ao len cap b (a + m) k n vp ∧ Only g w w' := by
  have c0 := hst.c0; have c2 := hst.c2; have f2 := hst.blk.free 2
  have hsl := fun w => slice_span ao len cap a (a + m) (a : Int) ((a : Int) + (m : Int)) rfl (by omega) (by omega) (by omega) w
  rw [hV] at hsl
  have HST := Lib.hid hst
  unfold maxLen at hcm
  clear hst hV
  go_enter Try.func71, Try.ntmps71
  go_wp2_with fail
  go_quiet (fail)
  go_wp2_with fail
  go_quiet (fail)
  go_wp2_with fail
  go_ret2
  exact ⟨rfl, ((HST.out.drewN _).set2 (a + m) (by omega)).drewN _, Only.drewN (Only.set (Only.drewN (Only.refl _ _) _) _ _) _⟩
end By
end Go.Proofs.Ytlfoikjbbbhbdaa

/- The program's readers of the parts of a frame. Conditions: the state lies in memory as it is named, and what it reads lies elsewhere. -/
namespace Go.Proofs.Ytlfoikjbbbhbdaa
namespace By
open Go.RowKit WireN
set_option linter.unusedVariables false
set_option linter.unusedSimpArgs false

/-- What is read: bytes that do not lie in block g. -/
structure Ctx (w : World) (g : Nat) (ao : Option Addr) (len cap : Nat) (xs : List Nat) : Prop where
  sl : Sl w (.slice ao len cap) xs
  off : Off g (.slice ao len cap) xs
section
variable {w w' : World} {g : Nat} {ao : Option Addr} {len cap : Nat} {xs : List Nat}
theorem Ctx.only (h : Ctx w g ao len cap xs) (ho : Only g w w') : Ctx w' g ao len cap xs := ⟨h.sl.only ho h.off, h.off⟩
theorem Ctx.keep (h : Ctx w g ao len cap xs) (ho : Kp w w') : Ctx w' g ao len cap xs := ⟨h.sl.keep ho, h.off⟩
theorem Ctx.facts (h : Ctx w g ao len cap xs) : len = xs.length ∧ len ≤ cap ∧ cap ≤ maxLen ∧ len ≤ 140737488355328 := by
  obtain ⟨ao', cap', e, h1, h2, h3⟩ := h.sl.open3
  simp only [Value.slice.injEq] at e
  obtain ⟨-, e2, e3⟩ := e
  have := h.sl.sm
  omega
theorem Ctx.part (h : Ctx w g ao len cap xs) (a m : Nat) (hm : a + m ≤ len) :
    ∃ bo bc, sliced ao a (a + m) cap 1 = .slice bo m bc ∧ ∀ w', Only g w w' → Sl w' (.slice bo m bc) ((xs.drop a).take m) := by
  have key : ∀ w', Only g w w' → Sl w' (sliced ao a (a + m) cap 1) ((xs.drop a).take m) := by
    intro w' ho
    have := (h.only ho).sl.cut a (a + m) (by omega) hm
    rwa [List.drop_take, show a + m - a = m by omega] at this
  have e : sliced ao a (a + m) cap 1 = .slice (if cap = a then ao else ao.map (·.add (a * 1))) m (cap - a) := by
    unfold sliced; rw [show a + m - a = m by omega]
  exact ⟨_, _, e, fun w' ho => by have := key w' ho; rwa [e] at this⟩
end
theorem one_take {xs : List Nat} {a : Nat} (h : a < xs.length) : (xs.drop a).take 1 = [xs[a]?.getD 0] := by
  rw [List.drop_eq_getElem_cons h, List.getElem?_eq_getElem h]; rfl

section
variable {w : World} {g : Nat} {ao : Option Addr} {len cap b a k n : Nat} {vp : Value} {xs : List Nat}
set_option maxRecDepth 100000 in
set_option maxHeartbeats 1000000 in
theorem mark_end (hst : St w g ao len cap b a k n vp) (hc : Ctx w g ao len cap xs) (h : a = len) :
    Calls Try.prog 66 #[.pointer (some ⟨g, 0, none⟩)] w fun e w' => e = .returned (.int .i64 7) ∧ Only g w w' := by
  obtain ⟨-, -, -, hl⟩ := hc.facts
  have HST := Lib.hid hst
  clear hst hc
  go_enter Try.func66, Try.ntmps66
  go_wp2_with fail
  refine (take_end HST.out (by omega) hl 1 (by omega) (by omega)).mono ?_
  rintro e w1 ⟨rfl, ho⟩
  have HO := Lib.hid ho; clear ho
  go_wp2_with fail
  go_ret
  exact ⟨rfl, HO.out⟩
set_option maxRecDepth 100000 in
set_option maxHeartbeats 1000000 in
theorem mark_text (hst : St w g ao len cap b a k n vp) (hc : Ctx w g ao len cap xs) (h : a < len) {x : Nat} (hx : xs[a]?.getD 0 = x) (hne : x ≠ 247) :
    Calls Try.prog 66 #[.pointer (some ⟨g, 0, none⟩)] w fun e w' => e = .returned (.int .i64 6) ∧ Only g w w' := by
  obtain ⟨hlx, hlc, hcm, hl⟩ := hc.facts
  obtain ⟨bo, bc, hV, hsl⟩ := hc.part a 1 h
  rw [one_take (by omega), hx] at hsl
  have HST := Lib.hid hst; have HSL := Lib.hid hsl; have HV := Lib.hid hV; have HCM := Lib.hid hcm
  have hxb : (((x : Nat) : Int) == 247) = false := beq_eq_false_iff_ne.2 (by omega)
  have hxb' : (((x : Nat) : Int) != 247) = true := by simp [bne, hxb]
  clear hst hc hsl hV hne hlx hcm
  go_enter Try.func66, Try.ntmps66
  go_wp2_with fail
  refine (take_ok HST.out hl 1 h hlc HCM.out HV.out).mono ?_
  rintro e w1 ⟨rfl, -, ho⟩
  obtain ⟨b', off, rfl, hcell⟩ := sl_cell (HSL.out w1 ho) (by omega)
  have c := hcell 0 (by omega)
  rw [Nat.add_zero] at c
  simp only [List.getElem?_cons_zero, Option.getD_some] at c
  have HO := Lib.hid ho; clear ho hcell
  go_wp2_with fail
  go_ret
  exact ⟨rfl, HO.out⟩
set_option maxRecDepth 100000 in
set_option maxHeartbeats 1000000 in
theorem mark_ok (hst : St w g ao len cap b a k n vp) (hc : Ctx w g ao len cap xs) (h : a < len) (hx : xs[a]?.getD 0 = 247) :
    Calls Try.prog 66 #[.pointer (some ⟨g, 0, none⟩)] w fun e w' => e = .returned (.int .i64 0) ∧ St w' g ao len cap b (a + 1) k n vp ∧ Only g w w' := by
  obtain ⟨hlx, hlc, hcm, hl⟩ := hc.facts
  obtain ⟨bo, bc, hV, hsl⟩ := hc.part a 1 h
  rw [one_take (by omega), hx] at hsl
  have HST := Lib.hid hst; have HSL := Lib.hid hsl; have HV := Lib.hid hV; have HCM := Lib.hid hcm
  clear hst hc hsl hV hlx hx hcm
  go_enter Try.func66, Try.ntmps66
  go_wp2_with fail
  refine (take_ok HST.out hl 1 h hlc HCM.out HV.out).mono ?_
  rintro e w1 ⟨rfl, hst1, ho⟩
  obtain ⟨b', off, rfl, hcell⟩ := sl_cell (HSL.out w1 ho) (by omega)
  have c := hcell 0 (by omega)
  rw [Nat.add_zero] at c
  simp only [List.getElem?_cons_zero, Option.getD_some] at c
  have HO := Lib.hid ho; have HST1 := Lib.hid hst1; clear ho hcell hst1
  go_wp2_with fail
  go_ret
  exact ⟨rfl, HST1.out, HO.out⟩

set_option maxRecDepth 100000 in
set_option maxHeartbeats 1000000 in
theorem kind_end (hst : St w g ao len cap b a k n vp) (hc : Ctx w g ao len cap xs) (h : a = len) :
    Calls Try.prog 67 #[.pointer (some ⟨g, 0, none⟩)] w fun e w' => e = .returned (.int .i64 7) ∧ Only g w w' := by
  obtain ⟨-, -, -, hl⟩ := hc.facts
  have HST := Lib.hid hst
  clear hst hc
  go_enter Try.func67, Try.ntmps67
  go_wp2_with fail
  refine (take_end HST.out (by omega) hl 1 (by omega) (by omega)).mono ?_
  rintro e w1 ⟨rfl, ho⟩
  have HO := Lib.hid ho; clear ho
  go_wp2_with fail
  go_ret
  exact ⟨rfl, HO.out⟩
set_option maxRecDepth 100000 in
set_option maxHeartbeats 1000000 in
theorem kind_text (hst : St w g ao len cap b a k n vp) (hc : Ctx w g ao len cap xs) (h : a < len) (hx : xs[a]?.getD 0 = 0) :
    Calls Try.prog 67 #[.pointer (some ⟨g, 0, none⟩)] w fun e w' => e = .returned (.int .i64 6) ∧ Only g w w' := by
  obtain ⟨hlx, hlc, hcm, hl⟩ := hc.facts
  obtain ⟨bo, bc, hV, hsl⟩ := hc.part a 1 h
  rw [one_take (by omega), hx] at hsl
  have HST := Lib.hid hst; have HSL := Lib.hid hsl; have HV := Lib.hid hV; have HCM := Lib.hid hcm
  clear hst hc hsl hV hlx hx hcm
  go_enter Try.func67, Try.ntmps67
  go_wp2_with fail
  refine (take_ok HST.out hl 1 h hlc HCM.out HV.out).mono ?_
  rintro e w1 ⟨rfl, -, ho⟩
  obtain ⟨b', off, rfl, hcell⟩ := sl_cell (HSL.out w1 ho) (by omega)
  have c := hcell 0 (by omega)
  rw [Nat.add_zero] at c
  simp only [List.getElem?_cons_zero, Option.getD_some] at c
  have HO := Lib.hid ho; clear ho hcell
  go_wp2_with fail
  go_ret
  exact ⟨rfl, HO.out⟩
set_option maxRecDepth 100000 in
set_option maxHeartbeats 1000000 in
theorem kind_ok (hst : St w g ao len cap b a k n vp) (hc : Ctx w g ao len cap xs) (h : a < len) {x : Nat} (hx : xs[a]?.getD 0 = x) (hne : x ≠ 0) :
    Calls Try.prog 67 #[.pointer (some ⟨g, 0, none⟩)] w fun e w' => e = .returned (.int .i64 0) ∧ St w' g ao len cap b (a + 1) x n vp ∧ Only g w w' := by
  obtain ⟨hlx, hlc, hcm, hl⟩ := hc.facts
  have hxl := hc.sl.lt a
  rw [hx] at hxl
  obtain ⟨bo, bc, hV, hsl⟩ := hc.part a 1 h
  rw [one_take (by omega), hx] at hsl
  have HST := Lib.hid hst; have HSL := Lib.hid hsl; have HV := Lib.hid hV; have HCM := Lib.hid hcm
  have hxb : (((x : Nat) : Int) == 0) = false := beq_eq_false_iff_ne.2 (by omega)
  clear hst hc hsl hV hne hlx hcm hx
  go_enter Try.func67, Try.ntmps67
  go_wp2_with fail
  refine (take_ok HST.out hl 1 h hlc HCM.out HV.out).mono ?_
  rintro e w1 ⟨rfl, hst1, ho⟩
  obtain ⟨b', off, rfl, hcell⟩ := sl_cell (HSL.out w1 ho) (by omega)
  have c := hcell 0 (by omega)
  rw [Nat.add_zero] at c
  simp only [List.getElem?_cons_zero, Option.getD_some] at c
  have c3 := hst1.c3; have f3 := hst1.blk.free 3
  have HO := Lib.hid ho; have HST1 := Lib.hid hst1; clear ho hcell hst1
  go_wp2_with fail
  go_ret
  exact ⟨rfl, HST1.out.set3 x (by omega), Only.set HO.out _ _⟩
end
end By
end Go.Proofs.Ytlfoikjbbbhbdaa

/- The program's readers of a length, a payload and a checksum; bytes.Equal and slices.Clone of bytes. Conditions: the state lies in memory as it is named, and what it reads lies elsewhere. -/
namespace Go.Proofs.Ytlfoikjbbbhbdaa
namespace By
open Go.RowKit WireN
set_option linter.unusedVariables false
set_option linter.unusedSimpArgs false

theorem quiet_l {P : Program} {f : FuncId} {args : Array Value} {w : World} {n : Nat} {v : Value}
    (h : Calls P f args (w.drewN n) fun e w' => e = .returned v ∧ w.drewN n = w') : Calls P f args (w.drewN n) fun e w'' => e = .returned v ∧ ∃ m, w'' = w.drewN m :=
  h.mono fun _ _ ⟨he, hm⟩ => ⟨he, n, hm.symm⟩
/-- Block g has changed, and new memory was made. -/
def Stp (g : Nat) (w w' : World) : Prop := ∃ w1, Only g w w1 ∧ Kp w1 w'
theorem Only.stp {g : Nat} {w w' : World} (h : Only g w w') : Stp g w w' := ⟨w', h, Kp.refl _⟩
theorem Stp.kp {g : Nat} {a b c : World} (h : Stp g b c) (hk : Kp a b) (hg : a.heap.size ≤ g) : Kp a c := by
  obtain ⟨w1, h1, h2⟩ := h
  exact Kp.trans (Only.kp hk h1 hg) h2
theorem Ctx.stp {w w' : World} {g : Nat} {ao : Option Addr} {len cap : Nat} {xs : List Nat} (h : Ctx w g ao len cap xs) (hs : Stp g w w') : Ctx w' g ao len cap xs := by
  obtain ⟨w1, h1, h2⟩ := hs
  exact (h.only h1).keep h2
theorem Blk.stp {w w' : World} {g r : Nat} {t : TypeId} {cs : Array Value} (h : Blk w r t cs) (hs : Stp g w w') (hne : r ≠ g) : Blk w' r t cs := by
  obtain ⟨w1, h1, h2⟩ := hs
  exact (h.other h1 hne).keep h2
theorem Uint_at {v : Value} {xs : List Nat} {w : World} (hs : Sl w v xs) (i : Int) (hi : -9223372036854775808 ≤ i ∧ i ≤ 9223372036854775807) {n p e : Nat} (h : rd xs i = (n, p, e)) :
    Calls Try.prog 72 #[v, .int .i64 i] w fun r w' => r = .returned (.tuple #[.int .u64 (n : Nat), .int .i64 (p : Nat), .int .i64 (e : Nat)]) ∧ w = w' := by
  rw [← rdV_of h]
  exact Uint_any hs i hi

section
variable {w : World} {g : Nat} {ao : Option Addr} {len cap b a k n : Nat} {vp : Value} {xs : List Nat}
set_option maxRecDepth 100000 in
set_option maxHeartbeats 1000000 in
theorem length_err (hst : St w g ao len cap b a k n vp) (hc : Ctx w g ao len cap xs) (ha : a ≤ len) {m p e : Nat} (hr : rd xs (a : Nat) = (m, p, e)) (he : e ≠ 0) :
    Calls Try.prog 68 #[.pointer (some ⟨g, 0, none⟩)] w fun r w' => r = .returned (.int .i64 (e : Nat)) ∧ Only g w w' := by
  obtain ⟨-, -, -, hl⟩ := hc.facts
  have HS := Lib.hid hc.sl; have HR := Lib.hid hr
  have c0 := hst.c0; have c2 := hst.c2
  have hne : (((e : Nat) : Int) == 0) = false := beq_eq_false_iff_ne.2 (by omega)
  have hne2 : (((e : Nat) : Int) != 0) = true := by simp [bne, hne]
  clear hst hc hr he
  go_enter Try.func68, Try.ntmps68
  go_wp2_with fail
  go_quiet ((go_at_call 72; exact quiet_l (Uint_at (HS.out.keep (Kp.drewN w _)) (a : Nat) (by omega) HR.out)))
  go_wp2_with fail
  go_ret
  exact ⟨rfl, Only.drewN (Only.refl _ _) _⟩
set_option maxRecDepth 100000 in
set_option maxHeartbeats 1000000 in
theorem length_limit (hst : St w g ao len cap b a k n vp) (hc : Ctx w g ao len cap xs) (ha : a ≤ len) {m p : Nat} (hr : rd xs (a : Nat) = (m, p, 0)) (hm : 2097152 < m) :
    Calls Try.prog 68 #[.pointer (some ⟨g, 0, none⟩)] w fun r w' => r = .returned (.int .i64 2) ∧ Only g w w' := by
  obtain ⟨-, -, -, hl⟩ := hc.facts
  have HS := Lib.hid hc.sl; have HR := Lib.hid hr
  have c0 := hst.c0; have c2 := hst.c2
  have hm' : 2097152 < (m : Int) := by omega
  clear hst hc hr hm
  go_enter Try.func68, Try.ntmps68
  go_wp2_with fail
  go_quiet ((go_at_call 72; exact quiet_l (Uint_at (HS.out.keep (Kp.drewN w _)) (a : Nat) (by omega) HR.out)))
  go_wp2_with fail
  go_ret
  exact ⟨rfl, Only.drewN (Only.refl _ _) _⟩
set_option maxRecDepth 100000 in
set_option maxHeartbeats 1000000 in
theorem length_ok (hst : St w g ao len cap b a k n vp) (hc : Ctx w g ao len cap xs) (ha : a ≤ len) {m p : Nat} (hr : rd xs (a : Nat) = (m, p, 0)) (hm : m ≤ 2097152) :
    Calls Try.prog 68 #[.pointer (some ⟨g, 0, none⟩)] w fun r w' => r = .returned (.int .i64 0) ∧ St w' g ao len cap b p k m vp ∧ Only g w w' := by
  obtain ⟨-, -, -, hl⟩ := hc.facts
  have HS := Lib.hid hc.sl; have HR := Lib.hid hr; have HST := Lib.hid hst
  have c0 := hst.c0; have c2 := hst.c2; have f2 := hst.blk.free 2; have c4 := hst.c4; have f4 := hst.blk.free 4
  have hm' : (m : Int) ≤ 2097152 := by omega
  clear hst hc hr hm
  go_enter Try.func68, Try.ntmps68
  go_wp2_with fail
  go_quiet ((go_at_call 72; exact quiet_l (Uint_at (HS.out.keep (Kp.drewN w _)) (a : Nat) (by omega) HR.out)))
  go_wp2_with fail
  go_ret
  exact ⟨rfl, ((HST.out.drewN _).set4 m (by omega)).set2 p (by omega), Only.set (Only.set (Only.drewN (Only.refl _ _) _) _ _) _ _⟩

set_option maxRecDepth 100000 in
set_option maxHeartbeats 1000000 in
theorem payload_end (hst : St w g ao len cap b a k n vp) (hc : Ctx w g ao len cap xs) (ha : a ≤ len) (hn : n ≤ 2097152) (h : len < a + n) :
    Calls Try.prog 69 #[.pointer (some ⟨g, 0, none⟩)] w fun r w' => r = .returned (.int .i64 7) ∧ Only g w w' := by
  obtain ⟨-, -, -, hl⟩ := hc.facts
  have HST := Lib.hid hst
  have c4 := hst.c4; have c5 := hst.c5; have f5 := hst.blk.free 5
  have HB := Lib.hid hst.blk
  clear hst hc
  go_enter Try.func69, Try.ntmps69
  go_wp2_with fail
  refine (take_end' HST.out ha hl n (by omega) h).mono ?_
  rintro e w1 ⟨rfl, hst1, ho⟩
  have d5 := hst1.c5; have g5 := hst1.blk.free 5
  have HO := Lib.hid ho; clear ho hst1 c4 c5 f5
  go_wp2_with fail
  go_ret
  exact ⟨rfl, Only.set HO.out _ _⟩
set_option maxRecDepth 100000 in
set_option maxHeartbeats 1000000 in
theorem payload_ok (hst : St w g ao len cap b a k n vp) (hc : Ctx w g ao len cap xs) (h : a + n ≤ len) (hn : n ≤ 2097152) {po : Option Addr} {pc : Nat} (hV : sliced ao a (a + n) cap 1 = .slice po n pc) :
    Calls Try.prog 69 #[.pointer (some ⟨g, 0, none⟩)] w fun r w' => r = .returned (.int .i64 0) ∧ St w' g ao len cap b (a + n) k n (.slice po n pc) ∧ Only g w w' := by
  obtain ⟨-, hlc, hcm, hl⟩ := hc.facts
  have HST := Lib.hid hst; have HV := Lib.hid hV; have HCM := Lib.hid hcm
  have c4 := hst.c4
  clear hst hc hV hcm
  go_enter Try.func69, Try.ntmps69
  go_wp2_with fail
  refine (take_ok HST.out hl n h hlc HCM.out HV.out).mono ?_
  rintro e w1 ⟨rfl, hst1, ho⟩
  have d5 := hst1.c5; have g5 := hst1.blk.free 5
  have HO := Lib.hid ho; have HST1 := Lib.hid hst1; clear ho hst1 c4
  go_wp2_with fail
  go_ret
  exact ⟨rfl, HST1.out.set5 _, Only.set HO.out _ _⟩
end

/-- Two strings of bytes are equal if the bytes are. -/
theorem st_inj {xs ys : List Nat} (hx : Lt xs) (hy : Lt ys) : (st xs).toList = (st ys).toList ↔ xs = ys := by
  constructor
  · intro h
    rw [ByteArray.toList_eq, ByteArray.toList_eq] at h
    have h2 : bs (st xs) = bs (st ys) := by unfold bs; rw [h]
    rwa [bs_st hx, bs_st hy] at h2
  · rintro rfl; rfl
set_option maxRecDepth 100000 in
set_option maxHeartbeats 1000000 in
theorem Equal_any {va vb : Value} {xs ys : List Nat} {w : World} (ha : Sl w va xs) (hb : Sl w vb ys) :
    Calls Try.prog 73 #[va, vb] w fun e w' => e = .returned (.bool (decide (xs = ys))) ∧ w = w' := by
  have ca := conv_str ha
  have cb := conv_str hb
  have hbq : ((st xs).toList == (st ys).toList) = decide (xs = ys) := by
    rw [Bool.eq_iff_iff, beq_iff_eq, decide_eq_true_eq, st_inj ha.lt hb.lt]
  have HBQ := Lib.hid hbq
  obtain ⟨sa, hsa⟩ : ∃ sa, sa = st xs := ⟨_, rfl⟩
  obtain ⟨sb, hsb⟩ : ∃ sb, sb = st ys := ⟨_, rfl⟩
  rw [← hsa] at ca HBQ
  rw [← hsb] at cb HBQ
  clear ha hb hbq hsa hsb
  go_enter Try.func73, Try.ntmps73
  go_wp2_with fail
  go_ret
  exact ⟨ret_bool HBQ.out, rfl⟩

theorem eql_nil_some (a : Addr) (n c : Nat) (w : World) : (binOp .eql 48 (.slice (some a) n c) (.slice none 0 0)).run Try.prog w = .ok (.bool false) w := Lib.run_eql_slice_some_nil w a n c Try.underlying48
theorem eql_nil_nil (n c : Nat) (w : World) : (binOp .eql 48 (.slice none n c) (.slice none 0 0)).run Try.prog w = .ok (.bool true) w := Lib.run_eql_slice_nil_nil w n c Try.underlying48
theorem own_empty (w : World) : Own w (w.alloc (.cells #[] 5)) (.slice (some ⟨w.heap.size, 0, none⟩) 0 0) [] :=
  ⟨⟨rfl, .inr ⟨w.heap.size, 0, #[], rfl, Nat.le_refl _, heap_alloc_new w _, Nat.le_refl _, Nat.zero_le _, rfl, rfl⟩⟩, Lt.nil, kp_alloc _ _⟩
set_option maxRecDepth 100000 in
set_option maxHeartbeats 1000000 in
theorem Clone_any {v : Value} {xs : List Nat} {w : World} (hs : Sl w v xs) :
    Calls Try.prog 65 #[v] w fun e w' => (∃ v', e = .returned v' ∧ Sl w' v' xs ∧ New w.heap.size v') ∧ Kp w w' := by
  obtain ⟨⟨ao, cap, rfl, h2, h3, h4, h5⟩, hl, hsm⟩ := hs
  cases ao with
  | none =>
    have hx : xs = [] := by
      rcases h4 with h | ⟨_, _, h, _⟩
      · exact h
      · simp at h
    subst hx
    obtain rfl := h5 rfl
    have hq := eql_nil_nil 0 0
    have HL := Lib.hid hl
    clear h4 h5 hl
    go_enter Try.func65, Try.ntmps65
    go_wp2_with fail
    go_ret
    exact ⟨⟨_, rfl, Sl.nil _, New.nil _⟩, Kp.refl _⟩
  | some ad =>
    have hq := eql_nil_some ad
    have HS : Hid (Sl w (.slice (some ad) xs.length cap) xs) := ⟨⟨some ad, cap, rfl, h2, h3, h4, h5⟩, hl, hsm⟩
    have HO := Lib.hid (own_empty w)
    clear h4 h5 hl
    go_enter Try.func65, Try.ntmps65
    go_wp2_with (at_builtin; refine wpList_ap (w := w) rfl (.tmp 5) (.tmp 6) 48 rfl Try.underlying48 _ _ [] xs rfl rfl HO.out (HS.out.keep (kp_alloc _ _)) (by simpa using hsm) ?_)
    intro v' w1 hown1
    have HOWN1 := Lib.hid hown1; clear hown1
    go_wp2_with fail
    go_ret
    exact ⟨⟨_, rfl, HOWN1.out.sl hsm, HOWN1.out.new hsm⟩, HOWN1.out.kp⟩
end By
end Go.Proofs.Ytlfoikjbbbhbdaa

/- The program's reader of a checksum. Conditions: the state lies in memory as it is named, and what it reads lies elsewhere. -/
namespace Go.Proofs.Ytlfoikjbbbhbdaa
namespace By
open Go.RowKit WireN
set_option linter.unusedVariables false
set_option linter.unusedSimpArgs false

section
variable {w : World} {g : Nat} {ao : Option Addr} {len cap b a k n : Nat} {vp : Value} {xs : List Nat}
set_option maxRecDepth 100000 in
set_option maxHeartbeats 1000000 in
theorem sum_end (hst : St w g ao len cap b a k n vp) (hc : Ctx w g ao len cap xs) (hb : b + 1 ≤ a) (ha : a ≤ len) (h : len < a + 4) :
    Calls Try.prog 70 #[.pointer (some ⟨g, 0, none⟩)] w fun r w' => r = .returned (.int .i64 7) ∧ Only g w w' := by
  obtain ⟨-, hlc, -, hl⟩ := hc.facts
  have HST := Lib.hid hst
  have c0 := hst.c0; have c1 := hst.c1; have c2 := hst.c2
  have hsl := fun w => slice_span ao len cap (b + 1) a ((b : Int) + 1) (a : Int) (by omega) rfl hb (by omega) w
  obtain ⟨V, hV⟩ : ∃ V, V = sliced ao (b + 1) a cap 1 := ⟨_, rfl⟩
  rw [← hV] at hsl
  clear hst hc hV
  go_enter Try.func70, Try.ntmps70
  go_wp2_with fail
  go_quiet (fail)
  go_wp2_with fail
  refine (take_end (HST.out.drewN _) ha hl 4 (by omega) h).mono ?_
  rintro e w1 ⟨rfl, ho⟩
  have HO := Lib.hid (Only.trans (Only.drewN (Only.refl g w) _) ho); clear ho c0 c1 c2
  go_wp2_with fail
  go_ret
  exact ⟨rfl, HO.out⟩

set_option maxRecDepth 100000 in
set_option maxHeartbeats 2000000 in
theorem sum_any (hst : St w g ao len cap b a k n vp) (hc : Ctx w g ao len cap xs) (hb : b + 1 ≤ a) (h : a + 4 ≤ len) {E : Nat} (hE : E = if (xs.drop a).take 4 = le4 (ck ((xs.take a).drop (b + 1))) then 0 else 8) :
    Calls Try.prog 70 #[.pointer (some ⟨g, 0, none⟩)] w fun r w' => r = .returned (.int .i64 (E : Nat)) ∧ St w' g ao len cap b (a + 4) k n vp ∧ Stp g w w' := by
  obtain ⟨hlx, hlc, hcm, hl⟩ := hc.facts
  have HST := Lib.hid hst; have HC := Lib.hid hc; have HCM := Lib.hid hcm
  have c0 := hst.c0; have c1 := hst.c1; have c2 := hst.c2
  have hsl := fun w => slice_span ao len cap (b + 1) a ((b : Int) + 1) (a : Int) (by omega) rfl hb (by omega) w
  have hcut : ∀ w', Only g w w' → Sl w' (sliced ao (b + 1) a cap 1) ((xs.take a).drop (b + 1)) := fun w' ho => (hc.only ho).sl.cut (b + 1) a hb (by omega)
  obtain ⟨V, hV⟩ : ∃ V, V = sliced ao (b + 1) a cap 1 := ⟨_, rfl⟩
  rw [← hV] at hsl hcut
  obtain ⟨bo, bc, hV4, hsl4⟩ := hc.part a 4 h
  obtain ⟨S, hS⟩ : ∃ S, S = (xs.take a).drop (b + 1) := ⟨_, rfl⟩
  obtain ⟨F, hF⟩ : ∃ F, F = (xs.drop a).take 4 := ⟨_, rfl⟩
  rw [← hS] at hcut hE
  rw [← hF] at hsl4 hE
  have HCUT := Lib.hid hcut; have HSL4 := Lib.hid hsl4; have HV4 := Lib.hid hV4
  clear hst hc hV hcm hcut hsl4 hV4 hlx hS hF
  by_cases heq : F = le4 (ck S)
  · have HD := Lib.hid (decide_eq_true heq)
    rw [if_pos heq] at hE
    subst hE
    clear heq
    go_enter Try.func70, Try.ntmps70
    go_wp2_with fail
    go_quiet (fail)
    go_wp2_with fail
    refine (take_ok (HST.out.drewN _) hl 4 h hlc HCM.out HV4.out).mono ?_
    rintro e w1 ⟨rfl, hst1, ho⟩
    have HO := Lib.hid (Only.trans (Only.drewN (Only.refl g w) _) ho); have HST1 := Lib.hid hst1; clear ho c0 c1 c2 hst1
    go_wp2_with fail
    refine (sumOf_any (HCUT.out w1 HO.out)).mono ?_
    rintro e w2 ⟨⟨v2, rfl, hs2, -⟩, hk2⟩
    have HS2 := Lib.hid hs2; have HK2 := Lib.hid hk2; clear hs2 hk2
    go_wp2_with fail
    refine (Equal_any ((HSL4.out w1 HO.out).keep HK2.out) HS2.out).mono ?_
    rintro e w3 ⟨rfl, rfl⟩
    rw [HD.out]
    go_wp2_with fail
    go_ret
    exact ⟨rfl, HST1.out.keep HK2.out, ⟨_, HO.out, HK2.out⟩⟩
  · have HD := Lib.hid (decide_eq_false heq)
    rw [if_neg heq] at hE
    subst hE
    clear heq
    go_enter Try.func70, Try.ntmps70
    go_wp2_with fail
    go_quiet (fail)
    go_wp2_with fail
    refine (take_ok (HST.out.drewN _) hl 4 h hlc HCM.out HV4.out).mono ?_
    rintro e w1 ⟨rfl, hst1, ho⟩
    have HO := Lib.hid (Only.trans (Only.drewN (Only.refl g w) _) ho); have HST1 := Lib.hid hst1; clear ho c0 c1 c2 hst1
    go_wp2_with fail
    refine (sumOf_any (HCUT.out w1 HO.out)).mono ?_
    rintro e w2 ⟨⟨v2, rfl, hs2, -⟩, hk2⟩
    have HS2 := Lib.hid hs2; have HK2 := Lib.hid hk2; clear hs2 hk2
    go_wp2_with fail
    refine (Equal_any ((HSL4.out w1 HO.out).keep HK2.out) HS2.out).mono ?_
    rintro e w3 ⟨rfl, rfl⟩
    rw [HD.out]
    go_wp2_with fail
    go_ret
    exact ⟨rfl, HST1.out.keep HK2.out, ⟨_, HO.out, HK2.out⟩⟩
end

set_option maxRecDepth 100000 in
set_option maxHeartbeats 1000000 in
theorem parts_any (w : World) : Calls Try.prog 64 #[] w fun e w' =>
    e = .returned (.agg #[.func (.func 66) #[] #[], .func (.func 67) #[] #[], .func (.func 68) #[] #[], .func (.func 69) #[] #[], .func (.func 70) #[] #[]]) ∧ Kp w w' := by
  go_enter Try.func64, Try.ntmps64
  go_wp2_with fail
  exact bodyPost_ret (by simp [results, Try.results64, go_sem]) rfl ⟨rfl, kp_alloc _ _⟩
end By
end Go.Proofs.Ytlfoikjbbbhbdaa
