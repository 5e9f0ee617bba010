/- The program's readers of a length, a payload and a checksum; bytes.Equal and slices.Clone of bytes. Conditions: the state lies in memory as it is named, and what it reads lies elsewhere. -/
import Derived.Test.YtlfoikjbbbhbdaaWRead
import Derived.Lib.BufferMore
namespace Go.Proofs.Ytlfoikjbbbhbdaa
namespace By
open Go.RowKit WireN
set_option linter.unusedVariables false
set_option linter.unusedSimpArgs false

theorem quiet_l {P : Program} {f : FuncId} {args : Array Value} {w : World} {n : Nat} {v : Value}
    (h : Calls P f args (w.drewN n) fun e w' => e = .returned v ∧ w.drewN n = w') : Calls P f args (w.drewN n) fun e w'' => e = .returned v ∧ ∃ m, w'' = w.drewN m :=
  h.mono fun _ _ ⟨he, hm⟩ => ⟨he, n, hm.symm⟩
/-- Block g has changed, and new memory was made. -/
def Stp (g : Nat) (w w' : World) : Prop := ∃ w1, Only g w w1 ∧ Kp w1 w'
theorem Only.stp {g : Nat} {w w' : World} (h : Only g w w') : Stp g w w' := ⟨w', h, Kp.refl _⟩
theorem Stp.kp {g : Nat} {a b c : World} (h : Stp g b c) (hk : Kp a b) (hg : a.heap.size ≤ g) : Kp a c := by
  obtain ⟨w1, h1, h2⟩ := h
  exact Kp.trans (Only.kp hk h1 hg) h2
theorem Ctx.stp {w w' : World} {g : Nat} {ao : Option Addr} {len cap : Nat} {xs : List Nat} (h : Ctx w g ao len cap xs) (hs : Stp g w w') : Ctx w' g ao len cap xs := by
  obtain ⟨w1, h1, h2⟩ := hs
  exact (h.only h1).keep h2
theorem Blk.stp {w w' : World} {g r : Nat} {t : TypeId} {cs : Array Value} (h : Blk w r t cs) (hs : Stp g w w') (hne : r ≠ g) : Blk w' r t cs := by
  obtain ⟨w1, h1, h2⟩ := hs
  exact (h.other h1 hne).keep h2
theorem Uint_at {v : Value} {xs : List Nat} {w : World} (hs : Sl w v xs) (i : Int) (hi : -9223372036854775808 ≤ i ∧ i ≤ 9223372036854775807) {n p e : Nat} (h : rd xs i = (n, p, e)) :
    Calls Try.prog 72 #[v, .int .i64 i] w fun r w' => r = .returned (.tuple #[.int .u64 (n : Nat), .int .i64 (p : Nat), .int .i64 (e : Nat)]) ∧ w = w' := by
  rw [← rdV_of h]
  exact Uint_any hs i hi

section
variable {w : World} {g : Nat} {ao : Option Addr} {len cap b a k n : Nat} {vp : Value} {xs : List Nat}
set_option maxRecDepth 100000 in
set_option maxHeartbeats 1000000 in
theorem length_err (hst : St w g ao len cap b a k n vp) (hc : Ctx w g ao len cap xs) (ha : a ≤ len) {m p e : Nat} (hr : rd xs (a : Nat) = (m, p, e)) (he : e ≠ 0) :
    Calls Try.prog 68 #[.pointer (some ⟨g, 0, none⟩)] w fun r w' => r = .returned (.int .i64 (e : Nat)) ∧ Only g w w' := by
  obtain ⟨-, -, -, hl⟩ := hc.facts
  have HS := Lib.hid hc.sl; have HR := Lib.hid hr
  have c0 := hst.c0; have c2 := hst.c2
  have hne : (((e : Nat) : Int) == 0) = false := beq_eq_false_iff_ne.2 (by omega)
  have hne2 : (((e : Nat) : Int) != 0) = true := by simp [bne, hne]
  clear hst hc hr he
  go_enter Try.func68, Try.ntmps68
  go_wp2_with fail
  go_quiet ((go_at_call 72; exact quiet_l (Uint_at (HS.out.keep (Kp.drewN w _)) (a : Nat) (by omega) HR.out)))
  go_wp2_with fail
  go_ret
  exact ⟨rfl, Only.drewN (Only.refl _ _) _⟩
set_option maxRecDepth 100000 in
set_option maxHeartbeats 1000000 in
theorem length_limit (hst : St w g ao len cap b a k n vp) (hc : Ctx w g ao len cap xs) (ha : a ≤ len) {m p : Nat} (hr : rd xs (a : Nat) = (m, p, 0)) (hm : 2097152 < m) :
    Calls Try.prog 68 #[.pointer (some ⟨g, 0, none⟩)] w fun r w' => r = .returned (.int .i64 2) ∧ Only g w w' := by
  obtain ⟨-, -, -, hl⟩ := hc.facts
  have HS := Lib.hid hc.sl; have HR := Lib.hid hr
  have c0 := hst.c0; have c2 := hst.c2
  have hm' : 2097152 < (m : Int) := by omega
  clear hst hc hr hm
  go_enter Try.func68, Try.ntmps68
  go_wp2_with fail
  go_quiet ((go_at_call 72; exact quiet_l (Uint_at (HS.out.keep (Kp.drewN w _)) (a : Nat) (by omega) HR.out)))
  go_wp2_with fail
  go_ret
  exact ⟨rfl, Only.drewN (Only.refl _ _) _⟩
set_option maxRecDepth 100000 in
set_option maxHeartbeats 1000000 in
theorem length_ok (hst : St w g ao len cap b a k n vp) (hc : Ctx w g ao len cap xs) (ha : a ≤ len) {m p : Nat} (hr : rd xs (a : Nat) = (m, p, 0)) (hm : m ≤ 2097152) :
    Calls Try.prog 68 #[.pointer (some ⟨g, 0, none⟩)] w fun r w' => r = .returned (.int .i64 0) ∧ St w' g ao len cap b p k m vp ∧ Only g w w' := by
  obtain ⟨-, -, -, hl⟩ := hc.facts
  have HS := Lib.hid hc.sl; have HR := Lib.hid hr; have HST := Lib.hid hst
  have c0 := hst.c0; have c2 := hst.c2; have f2 := hst.blk.free 2; have c4 := hst.c4; have f4 := hst.blk.free 4
  have hm' : (m : Int) ≤ 2097152 := by omega
  clear hst hc hr hm
  go_enter Try.func68, Try.ntmps68
  go_wp2_with fail
  go_quiet ((go_at_call 72; exact quiet_l (Uint_at (HS.out.keep (Kp.drewN w _)) (a : Nat) (by omega) HR.out)))
  go_wp2_with fail
  go_ret
  exact ⟨rfl, ((HST.out.drewN _).set4 m (by omega)).set2 p (by omega), Only.set (Only.set (Only.drewN (Only.refl _ _) _) _ _) _ _⟩

set_option maxRecDepth 100000 in
set_option maxHeartbeats 1000000 in
theorem payload_end (hst : St w g ao len cap b a k n vp) (hc : Ctx w g ao len cap xs) (ha : a ≤ len) (hn : n ≤ 2097152) (h : len < a + n) :
    Calls Try.prog 69 #[.pointer (some ⟨g, 0, none⟩)] w fun r w' => r = .returned (.int .i64 7) ∧ Only g w w' := by
  obtain ⟨-, -, -, hl⟩ := hc.facts
  have HST := Lib.hid hst
  have c4 := hst.c4; have c5 := hst.c5; have f5 := hst.blk.free 5
  have HB := Lib.hid hst.blk
  clear hst hc
  go_enter Try.func69, Try.ntmps69
  go_wp2_with fail
  refine (take_end' HST.out ha hl n (by omega) h).mono ?_
  rintro e w1 ⟨rfl, hst1, ho⟩
  have d5 := hst1.c5; have g5 := hst1.blk.free 5
  have HO := Lib.hid ho; clear ho hst1 c4 c5 f5
  go_wp2_with fail
  go_ret
  exact ⟨rfl, Only.set HO.out _ _⟩
set_option maxRecDepth 100000 in
set_option maxHeartbeats 1000000 in
theorem payload_ok (hst : St w g ao len cap b a k n vp) (hc : Ctx w g ao len cap xs) (h : a + n ≤ len) (hn : n ≤ 2097152) {po : Option Addr} {pc : Nat} (hV : sliced ao a (a + n) cap 1 = .slice po n pc) :
    Calls Try.prog 69 #[.pointer (some ⟨g, 0, none⟩)] w fun r w' => r = .returned (.int .i64 0) ∧ St w' g ao len cap b (a + n) k n (.slice po n pc) ∧ Only g w w' := by
  obtain ⟨-, hlc, hcm, hl⟩ := hc.facts
  have HST := Lib.hid hst; have HV := Lib.hid hV; have HCM := Lib.hid hcm
  have c4 := hst.c4
  clear hst hc hV hcm
  go_enter Try.func69, Try.ntmps69
  go_wp2_with fail
  refine (take_ok HST.out hl n h hlc HCM.out HV.out).mono ?_
  rintro e w1 ⟨rfl, hst1, ho⟩
  have d5 := hst1.c5; have g5 := hst1.blk.free 5
  have HO := Lib.hid ho; have HST1 := Lib.hid hst1; clear ho hst1 c4
  go_wp2_with fail
  go_ret
  exact ⟨rfl, HST1.out.set5 _, Only.set HO.out _ _⟩
end

/-- Two strings of bytes are equal if the bytes are. -/
theorem st_inj {xs ys : List Nat} (hx : Lt xs) (hy : Lt ys) : (st xs).toList = (st ys).toList ↔ xs = ys := by
  constructor
  · intro h
    rw [ByteArray.toList_eq, ByteArray.toList_eq] at h
    have h2 : bs (st xs) = bs (st ys) := by unfold bs; rw [h]
    rwa [bs_st hx, bs_st hy] at h2
  · rintro rfl; rfl
set_option maxRecDepth 100000 in
set_option maxHeartbeats 1000000 in
theorem Equal_any {va vb : Value} {xs ys : List Nat} {w : World} (ha : Sl w va xs) (hb : Sl w vb ys) :
    Calls Try.prog 73 #[va, vb] w fun e w' => e = .returned (.bool (decide (xs = ys))) ∧ w = w' := by
  have ca := conv_str ha
  have cb := conv_str hb
  have hbq : ((st xs).toList == (st ys).toList) = decide (xs = ys) := by
    rw [Bool.eq_iff_iff, beq_iff_eq, decide_eq_true_eq, st_inj ha.lt hb.lt]
  have HBQ := Lib.hid hbq
  obtain ⟨sa, hsa⟩ : ∃ sa, sa = st xs := ⟨_, rfl⟩
  obtain ⟨sb, hsb⟩ : ∃ sb, sb = st ys := ⟨_, rfl⟩
  rw [← hsa] at ca HBQ
  rw [← hsb] at cb HBQ
  clear ha hb hbq hsa hsb
  go_enter Try.func73, Try.ntmps73
  go_wp2_with fail
  go_ret
  exact ⟨ret_bool HBQ.out, rfl⟩

theorem eql_nil_some (a : Addr) (n c : Nat) (w : World) : (binOp .eql 48 (.slice (some a) n c) (.slice none 0 0)).run Try.prog w = .ok (.bool false) w := Lib.run_eql_slice_some_nil w a n c Try.underlying48
theorem eql_nil_nil (n c : Nat) (w : World) : (binOp .eql 48 (.slice none n c) (.slice none 0 0)).run Try.prog w = .ok (.bool true) w := Lib.run_eql_slice_nil_nil w n c Try.underlying48
theorem own_empty (w : World) : Own w (w.alloc (.cells #[] 5)) (.slice (some ⟨w.heap.size, 0, none⟩) 0 0) [] :=
  ⟨⟨rfl, .inr ⟨w.heap.size, 0, #[], rfl, Nat.le_refl _, heap_alloc_new w _, Nat.le_refl _, Nat.zero_le _, rfl, rfl⟩⟩, Lt.nil, kp_alloc _ _⟩
set_option maxRecDepth 100000 in
set_option maxHeartbeats 1000000 in
theorem Clone_any {v : Value} {xs : List Nat} {w : World} (hs : Sl w v xs) :
    Calls Try.prog 65 #[v] w fun e w' => (∃ v', e = .returned v' ∧ Sl w' v' xs ∧ New w.heap.size v') ∧ Kp w w' := by
  obtain ⟨⟨ao, cap, rfl, h2, h3, h4, h5⟩, hl, hsm⟩ := hs
  cases ao with
  | none =>
    have hx : xs = [] := by
      rcases h4 with h | ⟨_, _, h, _⟩
      · exact h
      · simp at h
    subst hx
    obtain rfl := h5 rfl
    have hq := eql_nil_nil 0 0
    have HL := Lib.hid hl
    clear h4 h5 hl
    go_enter Try.func65, Try.ntmps65
    go_wp2_with fail
    go_ret
    exact ⟨⟨_, rfl, Sl.nil _, New.nil _⟩, Kp.refl _⟩
  | some ad =>
    have hq := eql_nil_some ad
    have HS : Hid (Sl w (.slice (some ad) xs.length cap) xs) := ⟨⟨some ad, cap, rfl, h2, h3, h4, h5⟩, hl, hsm⟩
    have HO := Lib.hid (own_empty w)
    clear h4 h5 hl
    go_enter Try.func65, Try.ntmps65
    go_wp2_with (at_builtin; refine wpList_ap (w := w) rfl (.tmp 5) (.tmp 6) 48 rfl Try.underlying48 _ _ [] xs rfl rfl HO.out (HS.out.keep (kp_alloc _ _)) (by simpa using hsm) ?_)
    intro v' w1 hown1
    have HOWN1 := Lib.hid hown1; clear hown1
    go_wp2_with fail
    go_ret
    exact ⟨⟨_, rfl, HOWN1.out.sl hsm, HOWN1.out.new hsm⟩, HOWN1.out.kp⟩
end By
end Go.Proofs.Ytlfoikjbbbhbdaa
