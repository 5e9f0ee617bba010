/- Drawing from the tape: numbers, chances, picks, one of some strings, digits; sums of strings. Conditions: the tape has so many draws left; the slices lie apart from it. -/
import Derived.Test.YtfobogcccbddbaaGreatDoorZab
import Derived.Test.YtfobogcccbddbaaGreatDoorZac
import Derived.Deep.RegionHeld3
namespace Go.Proofs.YtfobogcccbddbaaGreatDoor
namespace By
open Go.RowKit WireN LexN
set_option linter.unusedVariables false
set_option linter.unusedSimpArgs false

/-- The tape has n draws left. -/
def Tq (w0 w : World) (g n : Nat) : Prop := ∃ a, a + n ≤ 1000000 ∧ Tp w0 w g a
theorem Tq.less {w0 w : World} {g n m : Nat} (h : Tq w0 w g n) (hm : m ≤ n) : Tq w0 w g m := by
  obtain ⟨a, h1, h2⟩ := h
  exact ⟨a, by omega, h2⟩
theorem Tq.keep {w0 w w' : World} {g n : Nat} (h : Tq w0 w g n) (hk : Kp w w') : Tq w0 w' g n := by
  obtain ⟨a, h1, h2⟩ := h
  exact ⟨a, h1, h2.keep hk⟩
theorem Tq.lt {w0 w : World} {g n : Nat} (h : Tq w0 w g n) : g < w.heap.size := by
  obtain ⟨a, h1, h2⟩ := h
  obtain ⟨_, _, _, _, _, hb⟩ := h2.ex
  exact hb.lt
theorem Tq.ge {w0 w : World} {g n : Nat} (h : Tq w0 w g n) : w0.heap.size ≤ g := by
  obtain ⟨a, h1, h2⟩ := h
  exact h2.ge
theorem Tq.base {w0 w : World} {g n : Nat} (h : Tq w0 w g n) : Kp w0 w := by
  obtain ⟨a, h1, h2⟩ := h
  exact h2.kp
theorem Tq.by {w0 w w' : World} {g n : Nat} {row : Option Nat} (h : Tq w0 w g n) (hg : w.grownBy w' row) (hr : ∀ r, row = some r → w0.heap.size ≤ r ∧ g ≠ r) : Tq w0 w' g n := by
  obtain ⟨a, h1, h2⟩ := h
  exact ⟨a, h1, h2.by hg hr⟩
theorem Tq.only {w0 w w' : World} {g r n : Nat} (h : Tq w0 w g n) (ho : Only r w w') (hr : w0.heap.size ≤ r) (hne : g ≠ r) : Tq w0 w' g n := h.by (Only.gr ho) (fun b hb => by injection hb with hb; subst hb; exact ⟨hr, hne⟩)
theorem cell_gr {w w' : World} {g b i : Nat} {v : Value} (hg : Gr g w w') (hc : w.cell? ⟨b, i, none⟩ = some v) (hne : b ≠ g) : w'.cell? ⟨b, i, none⟩ = some v := by
  have hb := hg.block b (World.block_lt_of_cell? w _ hc) (fun e => hne (by injection e))
  unfold World.cell? at hc ⊢
  rw [hb]
  exact hc
theorem Gr.drew {g : Nat} {w w' : World} (h : Gr g w w') : Gr g w w'.drew := h.trans ((kp_drew w').gr g)

set_option maxRecDepth 100000 in
set_option maxHeartbeats 400000 in
theorem Fold_one (v : Int) (w : World) : Calls Tryz.prog 54 #[.int .i64 v, .int .i64 1] w fun e w' => e = .returned (.int .i64 0) ∧ w = w' := by
  go_enter Tryz.func54, Tryz.ntmps54
  go_wp2_with fail
  go_ret
  exact ⟨rfl, rfl⟩
set_option maxRecDepth 100000 in
set_option maxHeartbeats 1000000 in
theorem TNext_one {w0 w : World} {g at' : Nat} (ht : Tp w0 w g at') (ha : at' < 1000000) :
    Calls Tryz.prog 22 #[.pointer (some ⟨g, 0, none⟩), .int .i64 1] w fun e w' => e = .returned (.int .i64 0) ∧ Tp w0 w' g (at' + 1) ∧ Only g w w' := by
  obtain ⟨ao, len, cap, zs, hs, hb⟩ := ht.ex
  obtain ⟨⟨ao', cap', e0, hc, hm, hat⟩, hlt, hsm⟩ := hs
  simp only [Value.slice.injEq] at e0
  obtain ⟨rfl, rfl, rfl⟩ := e0
  have HFIN : Hid (∀ (n1 : Nat) (w1 : World) (A : Int), A = ((at' + 1 : Nat) : Int) → w1 = ((w.drewN n1).setCell ⟨g, 1, none⟩ (.int .i64 A)) → Tp w0 w1 g (at' + 1) ∧ Only g w w1) := by
    intro n1 w1 A hA hw1
    subst hA hw1
    have ho : Only g w ((w.drewN n1).setCell ⟨g, 1, none⟩ (.int .i64 ((at' + 1 : Nat) : Int))) := Only.set (Only.drewN (Only.refl g w) n1) 1 _
    exact ⟨⟨⟨ao, zs.length, cap, zs, ⟨⟨ao, cap, rfl, hc, hm, hat⟩, hlt, hsm⟩, (hb.drewN n1).set 1 _⟩, Only.kp ht.kp ho ht.ge, ht.ge⟩, ho⟩
  have c0 := hb.cell 0 rfl; have c1 := hb.cell 1 rfl; have f1 := hb.free 1
  obtain ⟨len, hlen⟩ : ∃ len, len = zs.length := ⟨_, rfl⟩
  rw [← hlen] at c0 hc hsm
  by_cases hal : at' < len
  · obtain ⟨b, off, rfl, hcell⟩ : ∃ b off, ao = some ⟨b, off, none⟩ ∧ ∀ i : Nat, i < zs.length → w0.cell? ⟨b, off + i, none⟩ = some (.int .i64 (zs[i]?.getD 0)) := by
      rcases hat with h | h
      · rw [h] at hlen; simp at hlen; omega
      · exact h
    have cz := cell_kept (hcell at' (by omega)) ht.kp
    have hz := hlt at'
    obtain ⟨z, ez⟩ : ∃ z, z = zs[at']?.getD 0 := ⟨_, rfl⟩
    rw [← ez] at cz hz
    clear ez hcell hat hlt ht hb hlen hm
    go_enter Tryz.func22, Tryz.ntmps22
    go_wp2_with fail
    go_quiet (fail)
    go_wp2_with fail
    go_quiet (fail)
    go_wp2_with fail
    refine (Fold_one z _).mono ?_
    rintro e w' ⟨rfl, rfl⟩
    go_wp2_with fail
    go_ret
    exact ⟨rfl, HFIN.out _ _ _ (by omega) rfl⟩
  · clear hat hlt ht hb hlen hm
    go_enter Tryz.func22, Tryz.ntmps22
    go_wp2_with fail
    go_quiet (fail)
    go_wp2_with fail
    refine (Fold_one ((at' : Int) * 7 % 11) _).mono ?_
    rintro e w' ⟨rfl, rfl⟩
    go_wp2_with fail
    go_ret
    exact ⟨rfl, HFIN.out _ _ _ (by omega) rfl⟩
/-- One draw. -/
theorem Next_q {w0 w : World} {g n : Nat} (ht : Tq w0 w g (n + 1)) (m : Nat) (hm : 1 ≤ m) (hm2 : m ≤ 1000000) :
    Calls Tryz.prog 22 #[.pointer (some ⟨g, 0, none⟩), .int .i64 m] w fun e w' => (∃ r : Nat, r < m ∧ e = .returned (.int .i64 r)) ∧ Tq w0 w' g n ∧ Gr g w w' := by
  obtain ⟨a, h1, h2⟩ := ht
  by_cases h : m = 1
  · subst h
    refine (TNext_one h2 (by omega)).mono ?_
    rintro e w' ⟨rfl, h3, h4⟩
    exact ⟨⟨0, by omega, rfl⟩, ⟨a + 1, by omega, h3⟩, Only.gr h4⟩
  · refine (TNext_any h2 (by omega) m (by omega) hm2).mono ?_
    rintro e w' ⟨⟨r, hr, rfl⟩, h3, h4⟩
    exact ⟨⟨r, hr, rfl⟩, ⟨a + 1, by omega, h3⟩, Only.gr h4⟩
set_option maxRecDepth 100000 in
set_option maxHeartbeats 400000 in
theorem Chance_q {w0 w : World} {g n : Nat} (ht : Tq w0 w g (n + 1)) (k m : Nat) (hm : 1 ≤ m) (hm2 : m ≤ 1000000) :
    Calls Tryz.prog 14 #[.pointer (some ⟨g, 0, none⟩), .int .i64 (k : Nat), .int .i64 m] w fun e w' => (∃ b : Bool, e = .returned (.bool b)) ∧ Tq w0 w' g n ∧ Gr g w w' := by
  have HC := Lib.hid (Next_q ht m hm hm2)
  clear ht
  go_enter Tryz.func14, Tryz.ntmps14
  go_wp2_with fail
  refine HC.out.mono ?_
  rintro e w1 ⟨⟨r, hr, rfl⟩, hq, hg⟩
  have HQ := Lib.hid hq; have HG := Lib.hid hg
  clear hq hg
  go_wp2_with fail
  go_ret
  exact ⟨⟨_, rfl⟩, HQ.out, HG.out⟩
/-- A slice of a few short strings, apart from block g. -/
structure Ps (g : Nat) (w : World) (v : Value) (ss : List ByteArray) : Prop where
  ex : ∃ ao cap, v = .slice ao ss.length cap ∧ ss.length ≤ cap ∧ (ss ≠ [] → ∃ b, ao = some ⟨b, 0, none⟩ ∧ b ≠ g ∧ ∀ i s, ss[i]? = some s → w.cell? ⟨b, i, none⟩ = some (.string s))
  sm : ∀ s ∈ ss, s.size ≤ 8
  few : ss.length ≤ 10
theorem Ps.gr {g : Nat} {w w' : World} {v : Value} {ss : List ByteArray} (h : Ps g w v ss) (hg : Gr g w w') : Ps g w' v ss := by
  obtain ⟨⟨ao, cap, h1, h2, h3⟩, h4, h5⟩ := h
  refine ⟨⟨ao, cap, h1, h2, fun hne => ?_⟩, h4, h5⟩
  obtain ⟨b, e, hb, hc⟩ := h3 hne
  exact ⟨b, e, hb, fun i s hs => cell_gr hg (hc i s hs) hb⟩
theorem Ps.nil (g : Nat) (w : World) : Ps g w (.slice none 0 0) [] := ⟨⟨none, 0, rfl, Nat.le_refl _, fun h => absurd rfl h⟩, fun s h => by simp at h, by simp⟩
theorem Ps.blk {g : Nat} {w : World} {b : Nat} {t : TypeId} {ss : List ByteArray} (h : Blk w b t (ss.map Value.string).toArray) (hb : b ≠ g) (hs : ∀ s ∈ ss, s.size ≤ 8) (hf : ss.length ≤ 10) : Ps g w (.slice (some ⟨b, 0, none⟩) ss.length ss.length) ss := by
  refine ⟨⟨_, _, rfl, Nat.le_refl _, fun _ => ⟨b, rfl, hb, fun i s hi => ?_⟩⟩, hs, hf⟩
  refine h.cell i ?_
  simp [hi]
set_option maxRecDepth 100000 in
set_option maxHeartbeats 400000 in
theorem One_q {w0 w : World} {g n : Nat} {v : Value} {ss : List ByteArray} (ht : Tq w0 w g (n + 1)) (hp : Ps g w v ss) :
    Calls Tryz.prog 37 #[.pointer (some ⟨g, 0, none⟩), v] w fun e w' => (∃ s : ByteArray, e = .returned (.string s) ∧ s.size ≤ 8 ∧ (ss ≠ [] → s ∈ ss)) ∧ Tq w0 w' g n ∧ Gr g w w' := by
  obtain ⟨ao, cap, rfl, hc, hx⟩ := hp.ex
  have HT := Lib.hid ht; have HP := Lib.hid hp
  obtain ⟨m, hm⟩ : ∃ m, m = ss.length := ⟨_, rfl⟩
  rw [← hm] at hc ⊢
  have hm10 : m ≤ 10 := by rw [hm]; exact hp.few
  have HM := Lib.hid hm
  by_cases h0 : m = 0
  · subst h0
    have HE : Hid (ss = []) := Lib.hid (List.length_eq_zero_iff.1 hm.symm)
    clear ht hp hc hx hm
    go_enter Tryz.func37, Tryz.ntmps37
    go_wp2_with fail
    go_ret
    exact ⟨⟨_, rfl, by decide, fun h => absurd HE.out h⟩, HT.out.less (by omega), Gr.refl _ _⟩
  · have hne : ss ≠ [] := fun e => h0 (by rw [hm, e]; rfl)
    obtain ⟨b, rfl, hb, hcell⟩ := hx hne
    have HC := Lib.hid (Next_q ht m (by omega) (by omega))
    have HX := Lib.hid hcell; have HB := Lib.hid hb
    have q0 : ((m : Int) == 0) = false := beq_eq_false_iff_ne.2 (by omega)
    have hmc : (m : Int) ≤ (cap : Int) := by omega
    clear ht hp hc hx hm h0 hcell hb
    go_enter Tryz.func37, Tryz.ntmps37
    go_wp2_with fail
    refine HC.out.mono ?_
    rintro e w1 ⟨⟨r, hr, rfl⟩, hq, hg⟩
    obtain ⟨s, hs⟩ : ∃ s, ss[r]? = some s := ⟨_, List.getElem?_eq_getElem (by have := HM.out; omega)⟩
    have c0 := cell_gr hg (HX.out r s hs) HB.out
    have hri : (r : Int) < (m : Int) := by omega
    have HQ := Lib.hid hq; have HG := Lib.hid hg; have HSS := Lib.hid hs
    clear hq hg hs
    go_wp2_with fail
    go_ret
    exact ⟨⟨s, rfl, HP.out.sm s (List.mem_of_getElem? HSS.out), fun _ => List.mem_of_getElem? HSS.out⟩, HQ.out, HG.out⟩
set_option maxRecDepth 100000 in
set_option maxHeartbeats 400000 in
theorem Pick_q {w0 w : World} {g n b k M : Nat} (ht : Tq w0 w g (n + 1)) (hk : 1 ≤ k) (hk2 : k ≤ 100) (hb : b ≠ g) (hc : ∀ i, i < k → ∃ r : Nat, r ≤ M ∧ w.cell? ⟨b, i, none⟩ = some (.int .i64 r)) :
    Calls Tryz.prog 36 #[.pointer (some ⟨g, 0, none⟩), .slice (some ⟨b, 0, none⟩) k k] w fun e w' => (∃ r : Nat, r ≤ M ∧ e = .returned (.int .i64 r)) ∧ Tq w0 w' g n ∧ Gr g w w' := by
  have HC := Lib.hid (Next_q ht k hk (by omega))
  have HX := Lib.hid hc
  have q0 : ((k : Int) == 0) = false := beq_eq_false_iff_ne.2 (by omega)
  have hki : (k : Int) ≤ 100 := by omega
  clear ht hc
  go_enter Tryz.func36, Tryz.ntmps36
  go_wp2_with fail
  refine HC.out.mono ?_
  rintro e w1 ⟨⟨r, hr, rfl⟩, hq, hg⟩
  obtain ⟨z, hz, hcz⟩ := HX.out r hr
  have c0 := cell_gr hg hcz hb
  have hri : (r : Int) < (k : Int) := by omega
  have HQ := Lib.hid hq; have HG := Lib.hid hg
  clear hq hg hcz
  go_wp2_with fail
  go_ret
  exact ⟨⟨z, hz, rfl⟩, HQ.out, HG.out⟩
/-- The sum of two strings. -/
theorem addB (a b : ByteArray) {m n : Nat} (ha : a.size ≤ m) (hb : b.size ≤ n) (h : m + n ≤ 1000000) : ∃ x : ByteArray, x.size ≤ m + n ∧ ∀ w, (Op.stringOp .add a b).run Tryz.prog w = .ok (.string x) w := by
  refine ⟨a ++ b, by rw [ByteArray.size_append]; omega, fun w => ?_⟩
  exact run_string_add_sum w a b (by omega)
set_option maxRecDepth 100000 in
set_option maxHeartbeats 1000000 in
theorem Digit_q (n : Nat) (h : n < 10) (w : World) : Calls Tryz.prog 56 #[.int .i64 (n : Nat)] w fun e w' => (∃ s : ByteArray, e = .returned (.string s) ∧ s.size ≤ 1) ∧ w = w' := by
  obtain ⟨S, hS⟩ : ∃ S, S = st (sub [48, 49, 50, 51, 52, 53, 54, 55, 56, 57] n (n + 1)) := ⟨_, rfl⟩
  have hcut : ∀ w, (Instr.slice 9 (.string ⟨#[48, 49, 50, 51, 52, 53, 54, 55, 56, 57]⟩) (some (.int .i64 (n : Int))) (some (.int .i64 ((n : Int) + 1))) none).run Tryz.prog w = .ok (.string S) w := fun w => by
    rw [hS]
    exact cut (l := [48, 49, 50, 51, 52, 53, 54, 55, 56, 57]) (i := n) (j := n + 1) (by omega) (by simp; omega) w
  have HZ : Hid (S.size ≤ 1) := Lib.hid (by rw [hS, st_size]; unfold sub; simp; omega)
  have hi : (n : Int) < 10 := by omega
  clear hS h
  go_enter Tryz.func56, Tryz.ntmps56
  go_wp2_with fail
  go_ret
  exact ⟨⟨S, rfl, HZ.out⟩, rfl⟩
set_option maxRecDepth 100000 in
set_option maxHeartbeats 1000000 in
theorem Digits_k : ∀ (k n : Nat), n < 10 ^ (k + 1) → k ≤ 17 → ∀ w : World, Calls Tryz.prog 56 #[.int .i64 (n : Nat)] w fun e w' => (∃ s : ByteArray, e = .returned (.string s) ∧ s.size ≤ k + 1) ∧ w = w'
  | 0, n, hn, hk, w => (Digit_q n (by simpa using hn) w).mono fun _ _ h => h
  | k + 1, n, hn, hk, w => by
    by_cases h : n < 10
    · exact (Digit_q n h w).mono fun e w' ⟨⟨s, h1, h2⟩, h3⟩ => ⟨⟨s, h1, by omega⟩, h3⟩
    · obtain ⟨m1, hm1⟩ : ∃ m, m = n / 10 := ⟨_, rfl⟩
      obtain ⟨m2, hm2⟩ : ∃ m, m = n % 10 := ⟨_, rfl⟩
      have e1 : (n : Int) / 10 = (m1 : Int) := by omega
      have e2 : (n : Int) % 10 = (m2 : Int) := by omega
      have hi : (10 : Int) ≤ (n : Int) := by omega
      have hp : 10 ^ (k + 1 + 1) = 10 ^ (k + 1) * 10 := Nat.pow_succ _ _
      have H1 := Lib.hid (Digits_k k m1 (by rw [hp] at hn; omega) (by omega))
      have H2 := Lib.hid (Digit_q m2 (by omega))
      have HK : Hid (k ≤ 16) := Lib.hid (by omega)
      have hnb : (n : Int) ≤ 9223372036854775807 := by
        have : 10 ^ (k + 1 + 1) ≤ 10 ^ 18 := Nat.pow_le_pow_right (by omega) (by omega)
        have h18 : (10 : Nat) ^ 18 = 1000000000000000000 := by decide
        omega
      clear hm1 hm2 hn hk h hp
      go_enter Tryz.func56, Tryz.ntmps56
      go_wp2_with fail
      refine (H1.out _).mono ?_
      rintro e w' ⟨⟨s1, rfl, hz1⟩, rfl⟩
      have HZ1 := Lib.hid hz1
      clear hz1
      go_wp2_with fail
      refine (H2.out _).mono ?_
      rintro e w' ⟨⟨s2, rfl, hz2⟩, rfl⟩
      obtain ⟨x, hx, hadd⟩ := addB s1 s2 HZ1.out hz2 (by have := HK.out; omega)
      have HX := Lib.hid hx
      clear hz2 hx
      go_wp2_with fail
      go_ret
      exact ⟨⟨x, rfl, HX.out⟩, rfl⟩
end By
end Go.Proofs.YtfobogcccbddbaaGreatDoor

/- The lists of names that programs use. Condition: the block of the tape is there. -/
namespace Go.Proofs.YtfobogcccbddbaaGreatDoor
namespace By
open Go.RowKit WireN LexN
set_option linter.unusedVariables false
set_option linter.unusedSimpArgs false

set_option maxRecDepth 100000 in
set_option maxHeartbeats 400000 in
theorem Functions_q (g : Nat) (w : World) (hg : g < w.heap.size) : Calls Tryz.prog 78 #[] w fun e w' => ∃ v, e = .returned v ∧ Ps g w' v [⟨#[102]⟩, ⟨#[103]⟩, ⟨#[104]⟩, ⟨#[107]⟩] ∧ Kp w w' := by
  have HB : Hid (Blk (w.alloc (.cells #[.string ⟨#[102]⟩, .string ⟨#[103]⟩, .string ⟨#[104]⟩, .string ⟨#[107]⟩] 9)) w.heap.size 9 (([⟨#[102]⟩, ⟨#[103]⟩, ⟨#[104]⟩, ⟨#[107]⟩] : List ByteArray).map Value.string).toArray) := Lib.hid (Blk.new _ _ _)
  have HK := Lib.hid (kp_alloc w (.cells #[.string ⟨#[102]⟩, .string ⟨#[103]⟩, .string ⟨#[104]⟩, .string ⟨#[107]⟩] 9))
  have HNE : Hid (w.heap.size ≠ g) := Lib.hid (by omega)
  clear hg
  go_enter Tryz.func78, Tryz.ntmps78
  go_wp2_with fail
  go_ret
  exact ⟨_, rfl, Ps.blk HB.out HNE.out (by decide) (by decide), HK.out⟩
set_option maxRecDepth 100000 in
set_option maxHeartbeats 400000 in
theorem Packages_q (g : Nat) (w : World) (hg : g < w.heap.size) : Calls Tryz.prog 50 #[] w fun e w' => ∃ v, e = .returned v ∧ Ps g w' v [⟨#[112]⟩, ⟨#[113]⟩, ⟨#[115]⟩] ∧ Kp w w' := by
  have HB : Hid (Blk (w.alloc (.cells #[.string ⟨#[112]⟩, .string ⟨#[113]⟩, .string ⟨#[115]⟩] 9)) w.heap.size 9 (([⟨#[112]⟩, ⟨#[113]⟩, ⟨#[115]⟩] : List ByteArray).map Value.string).toArray) := Lib.hid (Blk.new _ _ _)
  have HK := Lib.hid (kp_alloc w (.cells #[.string ⟨#[112]⟩, .string ⟨#[113]⟩, .string ⟨#[115]⟩] 9))
  have HNE : Hid (w.heap.size ≠ g) := Lib.hid (by omega)
  clear hg
  go_enter Tryz.func50, Tryz.ntmps50
  go_wp2_with fail
  go_ret
  exact ⟨_, rfl, Ps.blk HB.out HNE.out (by decide) (by decide), HK.out⟩
set_option maxRecDepth 100000 in
set_option maxHeartbeats 400000 in
theorem Tests_q (g : Nat) (w : World) (hg : g < w.heap.size) : Calls Tryz.prog 75 #[] w fun e w' => ∃ v, e = .returned v ∧ Ps g w' v [⟨#[116]⟩, ⟨#[117]⟩, ⟨#[118]⟩] ∧ Kp w w' := by
  have HB : Hid (Blk (w.alloc (.cells #[.string ⟨#[116]⟩, .string ⟨#[117]⟩, .string ⟨#[118]⟩] 9)) w.heap.size 9 (([⟨#[116]⟩, ⟨#[117]⟩, ⟨#[118]⟩] : List ByteArray).map Value.string).toArray) := Lib.hid (Blk.new _ _ _)
  have HK := Lib.hid (kp_alloc w (.cells #[.string ⟨#[116]⟩, .string ⟨#[117]⟩, .string ⟨#[118]⟩] 9))
  have HNE : Hid (w.heap.size ≠ g) := Lib.hid (by omega)
  clear hg
  go_enter Tryz.func75, Tryz.ntmps75
  go_wp2_with fail
  go_ret
  exact ⟨_, rfl, Ps.blk HB.out HNE.out (by decide) (by decide), HK.out⟩
set_option maxRecDepth 100000 in
set_option maxHeartbeats 400000 in
theorem Paths_q (g : Nat) (w : World) (hg : g < w.heap.size) : Calls Tryz.prog 77 #[] w fun e w' => ∃ v, e = .returned v ∧ Ps g w' v [⟨#[97, 46, 100, 97, 116]⟩, ⟨#[100, 47, 98, 46, 100, 97, 116]⟩, ⟨#[99]⟩, ⟨#[97, 46, 115, 114, 99]⟩, ⟨#[120, 46, 115, 114, 99]⟩] ∧ Kp w w' := by
  have HB : Hid (Blk (w.alloc (.cells #[.string ⟨#[97, 46, 100, 97, 116]⟩, .string ⟨#[100, 47, 98, 46, 100, 97, 116]⟩, .string ⟨#[99]⟩, .string ⟨#[97, 46, 115, 114, 99]⟩, .string ⟨#[120, 46, 115, 114, 99]⟩] 9)) w.heap.size 9 (([⟨#[97, 46, 100, 97, 116]⟩, ⟨#[100, 47, 98, 46, 100, 97, 116]⟩, ⟨#[99]⟩, ⟨#[97, 46, 115, 114, 99]⟩, ⟨#[120, 46, 115, 114, 99]⟩] : List ByteArray).map Value.string).toArray) := Lib.hid (Blk.new _ _ _)
  have HK := Lib.hid (kp_alloc w (.cells #[.string ⟨#[97, 46, 100, 97, 116]⟩, .string ⟨#[100, 47, 98, 46, 100, 97, 116]⟩, .string ⟨#[99]⟩, .string ⟨#[97, 46, 115, 114, 99]⟩, .string ⟨#[120, 46, 115, 114, 99]⟩] 9))
  have HNE : Hid (w.heap.size ≠ g) := Lib.hid (by omega)
  clear hg
  go_enter Tryz.func77, Tryz.ntmps77
  go_wp2_with fail
  go_ret
  exact ⟨_, rfl, Ps.blk HB.out HNE.out (by decide) (by decide), HK.out⟩
set_option maxRecDepth 100000 in
set_option maxHeartbeats 400000 in
theorem Variables_q (g : Nat) (w : World) (hg : g < w.heap.size) : Calls Tryz.prog 97 #[] w fun e w' => ∃ v, e = .returned v ∧ Ps g w' v [⟨#[110]⟩, ⟨#[109]⟩] ∧ Kp w w' := by
  have HB : Hid (Blk (w.alloc (.cells #[.string ⟨#[110]⟩, .string ⟨#[109]⟩] 9)) w.heap.size 9 (([⟨#[110]⟩, ⟨#[109]⟩] : List ByteArray).map Value.string).toArray) := Lib.hid (Blk.new _ _ _)
  have HK := Lib.hid (kp_alloc w (.cells #[.string ⟨#[110]⟩, .string ⟨#[109]⟩] 9))
  have HNE : Hid (w.heap.size ≠ g) := Lib.hid (by omega)
  clear hg
  go_enter Tryz.func97, Tryz.ntmps97
  go_wp2_with fail
  go_ret
  exact ⟨_, rfl, Ps.blk HB.out HNE.out (by decide) (by decide), HK.out⟩
set_option maxRecDepth 100000 in
set_option maxHeartbeats 400000 in
theorem sources_q (g : Nat) (w : World) (hg : g < w.heap.size) : Calls Tryz.prog 47 #[] w fun e w' => ∃ v, e = .returned v ∧ Ps g w' v [⟨#[97, 46, 115, 114, 99]⟩, ⟨#[98, 46, 115, 114, 99]⟩, ⟨#[100, 47, 99, 46, 115, 114, 99]⟩, ⟨#[120, 46, 115, 114, 99]⟩] ∧ Kp w w' := by
  have HB : Hid (Blk (w.alloc (.cells #[.string ⟨#[97, 46, 115, 114, 99]⟩, .string ⟨#[98, 46, 115, 114, 99]⟩, .string ⟨#[100, 47, 99, 46, 115, 114, 99]⟩, .string ⟨#[120, 46, 115, 114, 99]⟩] 9)) w.heap.size 9 (([⟨#[97, 46, 115, 114, 99]⟩, ⟨#[98, 46, 115, 114, 99]⟩, ⟨#[100, 47, 99, 46, 115, 114, 99]⟩, ⟨#[120, 46, 115, 114, 99]⟩] : List ByteArray).map Value.string).toArray) := Lib.hid (Blk.new _ _ _)
  have HK := Lib.hid (kp_alloc w (.cells #[.string ⟨#[97, 46, 115, 114, 99]⟩, .string ⟨#[98, 46, 115, 114, 99]⟩, .string ⟨#[100, 47, 99, 46, 115, 114, 99]⟩, .string ⟨#[120, 46, 115, 114, 99]⟩] 9))
  have HNE : Hid (w.heap.size ≠ g) := Lib.hid (by omega)
  clear hg
  go_enter Tryz.func47, Tryz.ntmps47
  go_wp2_with fail
  go_ret
  exact ⟨_, rfl, Ps.blk HB.out HNE.out (by decide) (by decide), HK.out⟩
end By
end Go.Proofs.YtfobogcccbddbaaGreatDoor

/- A program's expression, drawn from the tape: some short string. Conditions: the tape has so many draws left; the names lie apart from it. -/
namespace Go.Proofs.YtfobogcccbddbaaGreatDoor
namespace By
open Go.RowKit WireN LexN
set_option linter.unusedVariables false
set_option linter.unusedSimpArgs false

/-- How many draws an expression takes at most, and how long it is. -/
def DE : Nat → Nat
  | 0 => 6
  | d + 1 => 3 * DE d + 6
def BE : Nat → Nat
  | 0 => 16
  | d + 1 => 3 * BE d + 40
/-- What is drawn: a string of at most so many bytes. -/
def StrR (w0 : World) (g n B : Nat) (w : World) (e : Ending) (w' : World) : Prop := (∃ s : ByteArray, e = .returned (.string s) ∧ s.size ≤ B) ∧ Tq w0 w' g n ∧ Gr g w w'
set_option maxRecDepth 100000 in
set_option maxHeartbeats 1000000 in
theorem Expr1_q {w : World} {g tb db pb d : Nat} {ao : Option Addr} {l c : Nat} {R : Ending → World → Prop}
    (h1 : w.cell? ⟨tb, 0, none⟩ = some (.pointer (some ⟨g, 0, none⟩))) (h2 : w.cell? ⟨db, 0, none⟩ = some (.int .i64 ((d : Int) + 1))) (h3 : w.cell? ⟨pb, 0, none⟩ = some (.slice ao l c)) (hd : d ≤ 10)
    (hE : Calls Tryz.prog 76 #[.pointer (some ⟨g, 0, none⟩), .int .i64 (d : Nat), .slice ao l c] w fun e w' => ∃ s, e = .returned (.string s) ∧ R e w') :
    Calls Tryz.prog 98 #[.pointer (some ⟨tb, 0, none⟩), .pointer (some ⟨db, 0, none⟩), .pointer (some ⟨pb, 0, none⟩)] w R := by
  have HE := Lib.hid hE
  have hdi : (d : Int) ≤ 10 := by omega
  clear hE hd
  go_enter Tryz.func98, Tryz.ntmps98
  go_wp2_with fail
  refine HE.out.mono ?_
  rintro e w1 ⟨s, rfl, hR⟩
  have HR := Lib.hid hR
  clear hR
  go_wp2_with fail
  exact HR.out
set_option maxRecDepth 100000 in
set_option maxHeartbeats 8000000 in
theorem Expr_zero {w0 w : World} {g n : Nat} {v : Value} {ss : List ByteArray} (ht : Tq w0 w g (n + DE 0)) (hp : Ps g w v ss) :
    Calls Tryz.prog 76 #[.pointer (some ⟨g, 0, none⟩), .int .i64 0, v] w (StrR w0 g n (BE 0) w) := by
  obtain ⟨ao, c, rfl, hlc, -⟩ := hp.ex
  obtain ⟨l, hl0⟩ : ∃ l, l = ss.length := ⟨_, rfl⟩
  have hl10 : l ≤ 10 := by rw [hl0]; exact hp.few
  rw [← hl0] at hp hlc ⊢
  obtain ⟨Q, hQ⟩ : ∃ Q, Q = StrR w0 g n (BE (0)) w := ⟨_, rfl⟩
  rw [← hQ]
  have hgw := ht.lt
  obtain ⟨tb, htb⟩ : ∃ tb, tb = w.heap.size := ⟨_, rfl⟩
  obtain ⟨db, hdb⟩ : ∃ db, db = w.heap.size + 1 := ⟨_, rfl⟩
  obtain ⟨pb, hpb⟩ : ∃ pb, pb = w.heap.size + 2 := ⟨_, rfl⟩
  obtain ⟨Wa, hWa⟩ : ∃ W, W = w.alloc (.cells #[.pointer (some ⟨g, 0, none⟩)] 28) := ⟨_, rfl⟩
  obtain ⟨Wb, hWb⟩ : ∃ W, W = Wa.alloc (.cells #[.int .i64 (0)] 3) := ⟨_, rfl⟩
  obtain ⟨X0, hX0⟩ : ∃ W, W = Wb.alloc (.cells #[.slice ao l c] 74) := ⟨_, rfl⟩
  have za : Wa.heap.size = w.heap.size + 1 := by rw [hWa]; simp
  have zb : Wb.heap.size = w.heap.size + 2 := by rw [hWb]; simp; omega
  have ka : Kp w Wa := by rw [hWa]; exact kp_alloc w _
  have kb : Kp Wa Wb := by rw [hWb]; exact kp_alloc Wa _
  have kc : Kp Wb X0 := by rw [hX0]; exact kp_alloc Wb _
  have HKX : Hid (Kp w X0) := Lib.hid (Kp.trans ka (Kp.trans kb kc))
  have T1 : Blk X0 tb 28 #[.pointer (some ⟨g, 0, none⟩)] := by
    have h : Blk Wa w.heap.size 28 #[.pointer (some ⟨g, 0, none⟩)] := by rw [hWa]; exact Blk.new _ _ _
    rw [htb]; exact (h.keep kb).keep kc
  have T2 : Blk X0 db 3 #[.int .i64 (0)] := by
    have h : Blk Wb Wa.heap.size 3 #[.int .i64 (0)] := by rw [hWb]; exact Blk.new _ _ _
    rw [hdb, ← za]; exact h.keep kc
  have T3 : Blk X0 pb 74 #[.slice ao l c] := by rw [hpb, ← zb, hX0]; exact Blk.new _ _ _
  have FACT : Hid (∀ W, Gr g X0 W → W.cell? ⟨tb, 0, none⟩ = some (.pointer (some ⟨g, 0, none⟩)) ∧ W.cell? ⟨db, 0, none⟩ = some (.int .i64 (0)) ∧ W.cell? ⟨pb, 0, none⟩ = some (.slice ao l c)) := Lib.hid (fun W hg =>
    ⟨cell_gr hg (T1.cell 0 rfl) (by omega), cell_gr hg (T2.cell 0 rfl) (by omega), cell_gr hg (T3.cell 0 rfl) (by omega)⟩)
  have HGW : Hid (g < X0.heap.size) := Lib.hid (by have := HKX.out.size; omega)
  have HLW : Hid (∀ W, Gr g X0 W → g < W.heap.size) := Lib.hid (fun W hg => Nat.lt_of_lt_of_le HGW.out hg.size)
  have HX0 : Hid (X0 = ((w.alloc (.cells #[.pointer (some ⟨g, 0, none⟩)] 28)).alloc (.cells #[.int .i64 (0)] 3)).alloc (.cells #[.slice ao l c] 74)) := Lib.hid (by rw [hX0, hWb, hWa])
  have HTB := Lib.hid htb; have HDB := Lib.hid hdb; have HPB := Lib.hid hpb
  have HP : Hid (Ps g X0 (.slice ao l c) ss) := Lib.hid (hp.gr (HKX.out.gr g))
  have HQ0 : Hid (Tq w0 X0 g (n + DE (0))) := Lib.hid (ht.keep HKX.out)
  have FIN : Hid (∀ (s : ByteArray) (W : World) {k : Nat}, s.size ≤ k → k ≤ BE (0) → Tq w0 W g n → Gr g X0 W → Q (.returned (.string s)) W) := Lib.hid (by
    intro s W k h1 h2 h3 h4
    rw [hQ]
    exact ⟨⟨s, rfl, Nat.le_trans h1 h2⟩, h3, Gr.trans (HKX.out.gr g) h4⟩)
  obtain ⟨x0, x1, x2⟩ := FACT.out X0 (Gr.refl _ _)
  rw [hX0, hWb, hWa] at x0 x1 x2
  have hli10 : (l : Int) ≤ 10 := by omega
  have hlci : (l : Int) ≤ (c : Int) := by omega
  clear ht hp hQ htb hdb hpb hWa hWb hX0 za zb ka kb kc T1 T2 T3 hl0 hl10 hlc hgw
  have HQX : Hid (Tq w0 X0 g (n + 6)) := HQ0
  have FIN : Hid (∀ (s : ByteArray) (W : World) {k : Nat}, s.size ≤ k → k ≤ 16 → Tq w0 W g n → Gr g X0 W → Q (.returned (.string s)) W) := Lib.hid (fun s W k h1 h2 h3 h4 => FIN.out s W h1 h2 h3 h4)
  have HGRX : Hid (Gr g X0 X0) := Lib.hid (Gr.refl _ _)
  clear HQ0
  go_enter Tryz.func76, Tryz.ntmps76
  go_wp2_with fail
  rw [← HX0.out, ← HPB.out, ← HDB.out, ← HTB.out]
  clear x0 x1 x2
  refine (Next_q (n := n + 4) (HQX.out.less (by omega)) 9 (by omega) (by omega)).mono ?_
  rintro e wl ⟨⟨r, hr, rfl⟩, hq, hg⟩
  have HQL : Hid (Tq w0 wl g (n + 4)) := Lib.hid hq
  have HGRL : Hid (Gr g X0 wl) := Lib.hid (Gr.trans HGRX.out hg)
  have HQwl := HQL; have HGRwl := HGRL
  obtain ⟨x0, x1, x2⟩ := FACT.out wl HGRL.out
  clear hq hg
  rcases (show r = 0 ∨ r = 1 ∨ r = 2 ∨ r = 3 ∨ r = 4 ∨ r = 5 ∨ r = 6 ∨ r = 7 ∨ r = 8 by omega) with rfl | rfl | rfl | rfl | rfl | rfl | rfl | rfl | rfl
  · by_cases hl : l = 0
    · subst hl
      go_wp2_with fail
      refine (Pick_q (n := n) (M := 9007199254740992) ((HQwl.out.less (by omega)).keep (kp_alloc _ _)) (by omega) (by omega) (by have := HGW.out; have := HGRwl.out.size; omega) (by
        intro i hi
        have hb := Blk.new wl 3 #[.int .i64 0, .int .i64 1, .int .i64 2, .int .i64 3, .int .i64 10, .int .i64 255, .int .i64 9007199254740992, .int .i64 1073741824]
        match i, hi with
        | 0, _ => exact ⟨0, by omega, hb.cell 0 rfl⟩
        | 1, _ => exact ⟨1, by omega, hb.cell 1 rfl⟩
        | 2, _ => exact ⟨2, by omega, hb.cell 2 rfl⟩
        | 3, _ => exact ⟨3, by omega, hb.cell 3 rfl⟩
        | 4, _ => exact ⟨10, by omega, hb.cell 4 rfl⟩
        | 5, _ => exact ⟨255, by omega, hb.cell 5 rfl⟩
        | 6, _ => exact ⟨9007199254740992, by omega, hb.cell 6 rfl⟩
        | 7, _ => exact ⟨1073741824, by omega, hb.cell 7 rfl⟩)).mono ?_
      rintro e wd ⟨⟨r9, hr9, rfl⟩, hqd, hgd⟩
      have HQD := Lib.hid hqd; have HGD := Lib.hid (Gr.trans HGRwl.out (Gr.trans ((kp_alloc wl _).gr g) hgd))
      have HDG := Lib.hid (Digits_k 15 r9 (by have : (10 : Nat) ^ (15 + 1) = 10000000000000000 := by decide
                                              omega) (by omega) wd)
      clear hr9 hqd hgd
      go_wp2_with fail
      refine HDG.out.mono ?_
      rintro e w' ⟨⟨s9, rfl, hz9⟩, rfl⟩
      have HZ9 := Lib.hid hz9
      clear hz9
      go_wp2_with fail
      exact FIN.out _ _ HZ9.out (by omega) HQD.out HGD.out
    · have hli : (0 : Int) < (l : Int) := by omega
      have HOC := Lib.hid (One_q (n := n) (HQL.out.less (by omega)) (HP.out.gr HGRL.out))
      clear hl
      go_wp2_with fail
      refine HOC.out.mono ?_
      rintro e wB ⟨⟨s, rfl, hs, -⟩, hqB, hgB⟩
      have HZ := Lib.hid hs; have HQB := Lib.hid hqB; have HGB := Lib.hid (Gr.trans HGRL.out hgB)
      clear hs hqB hgB
      go_wp2_with fail
      exact FIN.out _ _ HZ.out (by omega) HQB.out HGB.out
  · by_cases hl : l = 0
    · subst hl
      go_wp2_with fail
      refine (Pick_q (n := n) (M := 9007199254740992) ((HQwl.out.less (by omega)).keep (kp_alloc _ _)) (by omega) (by omega) (by have := HGW.out; have := HGRwl.out.size; omega) (by
        intro i hi
        have hb := Blk.new wl 3 #[.int .i64 0, .int .i64 1, .int .i64 2, .int .i64 3, .int .i64 10, .int .i64 255, .int .i64 9007199254740992, .int .i64 1073741824]
        match i, hi with
        | 0, _ => exact ⟨0, by omega, hb.cell 0 rfl⟩
        | 1, _ => exact ⟨1, by omega, hb.cell 1 rfl⟩
        | 2, _ => exact ⟨2, by omega, hb.cell 2 rfl⟩
        | 3, _ => exact ⟨3, by omega, hb.cell 3 rfl⟩
        | 4, _ => exact ⟨10, by omega, hb.cell 4 rfl⟩
        | 5, _ => exact ⟨255, by omega, hb.cell 5 rfl⟩
        | 6, _ => exact ⟨9007199254740992, by omega, hb.cell 6 rfl⟩
        | 7, _ => exact ⟨1073741824, by omega, hb.cell 7 rfl⟩)).mono ?_
      rintro e wd ⟨⟨r9, hr9, rfl⟩, hqd, hgd⟩
      have HQD := Lib.hid hqd; have HGD := Lib.hid (Gr.trans HGRwl.out (Gr.trans ((kp_alloc wl _).gr g) hgd))
      have HDG := Lib.hid (Digits_k 15 r9 (by have : (10 : Nat) ^ (15 + 1) = 10000000000000000 := by decide
                                              omega) (by omega) wd)
      clear hr9 hqd hgd
      go_wp2_with fail
      refine HDG.out.mono ?_
      rintro e w' ⟨⟨s9, rfl, hz9⟩, rfl⟩
      have HZ9 := Lib.hid hz9
      clear hz9
      go_wp2_with fail
      exact FIN.out _ _ HZ9.out (by omega) HQD.out HGD.out
    · have hli : (0 : Int) < (l : Int) := by omega
      have HOC := Lib.hid (One_q (n := n) (HQL.out.less (by omega)) (HP.out.gr HGRL.out))
      clear hl
      go_wp2_with fail
      refine HOC.out.mono ?_
      rintro e wB ⟨⟨s, rfl, hs, -⟩, hqB, hgB⟩
      have HZ := Lib.hid hs; have HQB := Lib.hid hqB; have HGB := Lib.hid (Gr.trans HGRL.out hgB)
      clear hs hqB hgB
      go_wp2_with fail
      exact FIN.out _ _ HZ.out (by omega) HQB.out HGB.out
  · go_wp2_with fail
    go_region_held3 (fun w' => w'.cell? ⟨tb, 0, none⟩ = some (.pointer (some ⟨g, 0, none⟩)))
      (first
        | exact (FACT.out _ (by first | assumption | exact Gr.drew HGRwl.out | exact HGRwl.out)).1
        | fail "no keep")
      (first
        | (go_at_call 37; refine (One_q (n := n) (hqA.less (by omega)) hpA).mono ?_; rintro e wB ⟨⟨s, rfl, hs, -⟩, hqB, hgB'⟩; have hgB : Gr g X0 wB := Gr.trans hgA hgB'; obtain ⟨x1, z1, a1⟩ := addB ⟨#[115, 105, 122, 101, 40, 34]⟩ s (m := 6) (by decide) hs (by omega); obtain ⟨x2, z2, a2⟩ := addB x1 ⟨#[34, 41]⟩ (n := 2) z1 (by decide) (by omega))
        | (go_at_call 77; refine (Paths_q g _ (HLW.out _ (Gr.drew HGRwl.out))).mono ?_; rintro e wA ⟨vA, rfl, hpA, hkA⟩; obtain ⟨aoA, capA, hvA, -, -⟩ := hpA.ex; subst hvA; have hgA : Gr g X0 wA := Gr.trans (Gr.drew HGRwl.out) (hkA.gr g); have hqA : Tq w0 wA g (n + 4) := (HQwl.out.keep (kp_drew _)).keep hkA)
        | fail "no arm")
    all_goals
      have HZ := Lib.hid z2; have HQB := Lib.hid hqB; have HGB := Lib.hid hgB
      clear hs z1 z2 a1 a2 hqB hgB hgB' hqA hpA hkA hgA
      go_wp2_with fail
      exact FIN.out _ _ HZ.out (by omega) HQB.out HGB.out
  · go_wp2_with fail
    go_region_held3 (fun w' => w'.cell? ⟨tb, 0, none⟩ = some (.pointer (some ⟨g, 0, none⟩)))
      (first
        | exact (FACT.out _ (by first | assumption | exact Gr.drew HGRwl.out | exact HGRwl.out)).1
        | fail "no keep")
      (first
        | (go_at_call 37; refine (One_q (n := n) (hqA.less (by omega)) hpA).mono ?_; rintro e wB ⟨⟨s, rfl, hs, -⟩, hqB, hgB'⟩; have hgB : Gr g X0 wB := Gr.trans hgA hgB'; obtain ⟨x1, z1, a1⟩ := addB ⟨#[104, 97, 115, 40, 34]⟩ s (m := 5) (by decide) hs (by omega); obtain ⟨x2, z2, a2⟩ := addB x1 ⟨#[34, 41]⟩ (n := 2) z1 (by decide) (by omega))
        | (go_at_call 77; refine (Paths_q g _ (HLW.out _ (Gr.drew HGRwl.out))).mono ?_; rintro e wA ⟨vA, rfl, hpA, hkA⟩; obtain ⟨aoA, capA, hvA, -, -⟩ := hpA.ex; subst hvA; have hgA : Gr g X0 wA := Gr.trans (Gr.drew HGRwl.out) (hkA.gr g); have hqA : Tq w0 wA g (n + 4) := (HQwl.out.keep (kp_drew _)).keep hkA)
        | fail "no arm")
    all_goals
      have HZ := Lib.hid z2; have HQB := Lib.hid hqB; have HGB := Lib.hid hgB
      clear hs z1 z2 a1 a2 hqB hgB hgB' hqA hpA hkA hgA
      go_wp2_with fail
      exact FIN.out _ _ HZ.out (by omega) HQB.out HGB.out
  · go_wp2_with fail
    go_region_held3 (fun w' => w'.cell? ⟨tb, 0, none⟩ = some (.pointer (some ⟨g, 0, none⟩)))
      (first
        | exact (FACT.out _ (by first | assumption | exact Gr.drew HGRwl.out | exact HGRwl.out)).1
        | fail "no keep")
      (first
        | (go_at_call 37; refine (One_q (n := n) (hqA.less (by omega)) hpA).mono ?_; rintro e wB ⟨⟨s, rfl, hs, -⟩, hqB, hgB'⟩; have hgB : Gr g X0 wB := Gr.trans hgA hgB'; obtain ⟨x1, z1, a1⟩ := addB ⟨#[101, 110, 118, 40, 34]⟩ s (m := 5) (by decide) hs (by omega); obtain ⟨x2, z2, a2⟩ := addB x1 ⟨#[34, 41]⟩ (n := 2) z1 (by decide) (by omega))
        | (go_at_call 97; refine (Variables_q g _ (HLW.out _ (Gr.drew HGRwl.out))).mono ?_; rintro e wA ⟨vA, rfl, hpA, hkA⟩; obtain ⟨aoA, capA, hvA, -, -⟩ := hpA.ex; subst hvA; have hgA : Gr g X0 wA := Gr.trans (Gr.drew HGRwl.out) (hkA.gr g); have hqA : Tq w0 wA g (n + 4) := (HQwl.out.keep (kp_drew _)).keep hkA)
        | fail "no arm")
    all_goals
      have HZ := Lib.hid z2; have HQB := Lib.hid hqB; have HGB := Lib.hid hgB
      clear hs z1 z2 a1 a2 hqB hgB hgB' hqA hpA hkA hgA
      go_wp2_with fail
      exact FIN.out _ _ HZ.out (by omega) HQB.out HGB.out
  · have HCC := Lib.hid (Chance_q (n := n + 3) HQL.out 1 5 (by omega) (by omega))
    go_wp2_with fail
    refine HCC.out.mono ?_
    rintro e wc ⟨⟨b5, rfl⟩, hq, hg⟩
    have HQwc : Hid (Tq w0 wc g (n + 3)) := Lib.hid hq
    have HGRwc : Hid (Gr g X0 wc) := Lib.hid (Gr.trans HGRL.out hg)
    obtain ⟨x0, x1, x2⟩ := FACT.out wc HGRwc.out
    clear hq hg
    cases b5 with
    | true =>
      go_wp2_with fail
      refine (Pick_q (n := n) (M := 63) ((HQwc.out.less (by omega)).keep (kp_alloc _ _)) (by omega) (by omega) (by have := HGW.out; have := HGRwc.out.size; omega) (by
        intro i hi
        have hb := Blk.new wc 3 #[.int .i64 0, .int .i64 1, .int .i64 63]
        match i, hi with
        | 0, _ => exact ⟨0, by omega, hb.cell 0 rfl⟩
        | 1, _ => exact ⟨1, by omega, hb.cell 1 rfl⟩
        | 2, _ => exact ⟨63, by omega, hb.cell 2 rfl⟩)).mono ?_
      rintro e wd ⟨⟨r9, hr9, rfl⟩, hqd, hgd⟩
      have HQD := Lib.hid hqd; have HGD := Lib.hid (Gr.trans HGRwc.out (Gr.trans ((kp_alloc wc _).gr g) hgd))
      have HDG := Lib.hid (Digits_k 1 r9 (by omega) (by omega) wd)
      clear hr9 hqd hgd
      go_wp2_with fail
      refine HDG.out.mono ?_
      rintro e w' ⟨⟨s9, rfl, hz9⟩, rfl⟩
      obtain ⟨y1, z1, a1⟩ := addB ⟨#[102, 108, 105, 112, 40]⟩ s9 (m := 5) (by decide) hz9 (by omega)
      obtain ⟨y2, z2, a2⟩ := addB y1 ⟨#[41]⟩ (n := 1) z1 (by decide) (by omega)
      have HZ := Lib.hid z2
      clear hz9 z1 z2
      go_wp2_with fail
      exact FIN.out _ _ HZ.out (by omega) HQD.out HGD.out
    | false =>
      go_wp2_with fail
      refine (Pick_q (n := n) (M := 9007199254740992) ((HQwc.out.less (by omega)).keep (kp_alloc _ _)) (by omega) (by omega) (by have := HGW.out; have := HGRwc.out.size; omega) (by
        intro i hi
        have hb := Blk.new wc 3 #[.int .i64 0, .int .i64 1, .int .i64 2, .int .i64 3, .int .i64 10, .int .i64 255, .int .i64 9007199254740992, .int .i64 1073741824]
        match i, hi with
        | 0, _ => exact ⟨0, by omega, hb.cell 0 rfl⟩
        | 1, _ => exact ⟨1, by omega, hb.cell 1 rfl⟩
        | 2, _ => exact ⟨2, by omega, hb.cell 2 rfl⟩
        | 3, _ => exact ⟨3, by omega, hb.cell 3 rfl⟩
        | 4, _ => exact ⟨10, by omega, hb.cell 4 rfl⟩
        | 5, _ => exact ⟨255, by omega, hb.cell 5 rfl⟩
        | 6, _ => exact ⟨9007199254740992, by omega, hb.cell 6 rfl⟩
        | 7, _ => exact ⟨1073741824, by omega, hb.cell 7 rfl⟩)).mono ?_
      rintro e wd ⟨⟨r9, hr9, rfl⟩, hqd, hgd⟩
      have HQD := Lib.hid hqd; have HGD := Lib.hid (Gr.trans HGRwc.out (Gr.trans ((kp_alloc wc _).gr g) hgd))
      have HDG := Lib.hid (Digits_k 15 r9 (by have : (10 : Nat) ^ (15 + 1) = 10000000000000000 := by decide
                                              omega) (by omega) wd)
      clear hr9 hqd hgd
      go_wp2_with fail
      refine HDG.out.mono ?_
      rintro e w' ⟨⟨s9, rfl, hz9⟩, rfl⟩
      have HZ9 := Lib.hid hz9
      clear hz9
      go_wp2_with fail
      exact FIN.out _ _ HZ9.out (by omega) HQD.out HGD.out
  · skip
    go_wp2_with fail
    refine (Pick_q (n := n) (M := 9007199254740992) ((HQwl.out.less (by omega)).keep (kp_alloc _ _)) (by omega) (by omega) (by have := HGW.out; have := HGRwl.out.size; omega) (by
      intro i hi
      have hb := Blk.new wl 3 #[.int .i64 0, .int .i64 1, .int .i64 2, .int .i64 3, .int .i64 10, .int .i64 255, .int .i64 9007199254740992, .int .i64 1073741824]
      match i, hi with
      | 0, _ => exact ⟨0, by omega, hb.cell 0 rfl⟩
      | 1, _ => exact ⟨1, by omega, hb.cell 1 rfl⟩
      | 2, _ => exact ⟨2, by omega, hb.cell 2 rfl⟩
      | 3, _ => exact ⟨3, by omega, hb.cell 3 rfl⟩
      | 4, _ => exact ⟨10, by omega, hb.cell 4 rfl⟩
      | 5, _ => exact ⟨255, by omega, hb.cell 5 rfl⟩
      | 6, _ => exact ⟨9007199254740992, by omega, hb.cell 6 rfl⟩
      | 7, _ => exact ⟨1073741824, by omega, hb.cell 7 rfl⟩)).mono ?_
    rintro e wd ⟨⟨r9, hr9, rfl⟩, hqd, hgd⟩
    have HQD := Lib.hid hqd; have HGD := Lib.hid (Gr.trans HGRwl.out (Gr.trans ((kp_alloc wl _).gr g) hgd))
    have HDG := Lib.hid (Digits_k 15 r9 (by have : (10 : Nat) ^ (15 + 1) = 10000000000000000 := by decide
                                            omega) (by omega) wd)
    clear hr9 hqd hgd
    go_wp2_with fail
    refine HDG.out.mono ?_
    rintro e w' ⟨⟨s9, rfl, hz9⟩, rfl⟩
    have HZ9 := Lib.hid hz9
    clear hz9
    go_wp2_with fail
    exact FIN.out _ _ HZ9.out (by omega) HQD.out HGD.out
  · skip
    go_wp2_with fail
    refine (Pick_q (n := n) (M := 9007199254740992) ((HQwl.out.less (by omega)).keep (kp_alloc _ _)) (by omega) (by omega) (by have := HGW.out; have := HGRwl.out.size; omega) (by
      intro i hi
      have hb := Blk.new wl 3 #[.int .i64 0, .int .i64 1, .int .i64 2, .int .i64 3, .int .i64 10, .int .i64 255, .int .i64 9007199254740992, .int .i64 1073741824]
      match i, hi with
      | 0, _ => exact ⟨0, by omega, hb.cell 0 rfl⟩
      | 1, _ => exact ⟨1, by omega, hb.cell 1 rfl⟩
      | 2, _ => exact ⟨2, by omega, hb.cell 2 rfl⟩
      | 3, _ => exact ⟨3, by omega, hb.cell 3 rfl⟩
      | 4, _ => exact ⟨10, by omega, hb.cell 4 rfl⟩
      | 5, _ => exact ⟨255, by omega, hb.cell 5 rfl⟩
      | 6, _ => exact ⟨9007199254740992, by omega, hb.cell 6 rfl⟩
      | 7, _ => exact ⟨1073741824, by omega, hb.cell 7 rfl⟩)).mono ?_
    rintro e wd ⟨⟨r9, hr9, rfl⟩, hqd, hgd⟩
    have HQD := Lib.hid hqd; have HGD := Lib.hid (Gr.trans HGRwl.out (Gr.trans ((kp_alloc wl _).gr g) hgd))
    have HDG := Lib.hid (Digits_k 15 r9 (by have : (10 : Nat) ^ (15 + 1) = 10000000000000000 := by decide
                                            omega) (by omega) wd)
    clear hr9 hqd hgd
    go_wp2_with fail
    refine HDG.out.mono ?_
    rintro e w' ⟨⟨s9, rfl, hz9⟩, rfl⟩
    have HZ9 := Lib.hid hz9
    clear hz9
    go_wp2_with fail
    exact FIN.out _ _ HZ9.out (by omega) HQD.out HGD.out
  · skip
    go_wp2_with fail
    refine (Pick_q (n := n) (M := 9007199254740992) ((HQwl.out.less (by omega)).keep (kp_alloc _ _)) (by omega) (by omega) (by have := HGW.out; have := HGRwl.out.size; omega) (by
      intro i hi
      have hb := Blk.new wl 3 #[.int .i64 0, .int .i64 1, .int .i64 2, .int .i64 3, .int .i64 10, .int .i64 255, .int .i64 9007199254740992, .int .i64 1073741824]
      match i, hi with
      | 0, _ => exact ⟨0, by omega, hb.cell 0 rfl⟩
      | 1, _ => exact ⟨1, by omega, hb.cell 1 rfl⟩
      | 2, _ => exact ⟨2, by omega, hb.cell 2 rfl⟩
      | 3, _ => exact ⟨3, by omega, hb.cell 3 rfl⟩
      | 4, _ => exact ⟨10, by omega, hb.cell 4 rfl⟩
      | 5, _ => exact ⟨255, by omega, hb.cell 5 rfl⟩
      | 6, _ => exact ⟨9007199254740992, by omega, hb.cell 6 rfl⟩
      | 7, _ => exact ⟨1073741824, by omega, hb.cell 7 rfl⟩)).mono ?_
    rintro e wd ⟨⟨r9, hr9, rfl⟩, hqd, hgd⟩
    have HQD := Lib.hid hqd; have HGD := Lib.hid (Gr.trans HGRwl.out (Gr.trans ((kp_alloc wl _).gr g) hgd))
    have HDG := Lib.hid (Digits_k 15 r9 (by have : (10 : Nat) ^ (15 + 1) = 10000000000000000 := by decide
                                            omega) (by omega) wd)
    clear hr9 hqd hgd
    go_wp2_with fail
    refine HDG.out.mono ?_
    rintro e w' ⟨⟨s9, rfl, hz9⟩, rfl⟩
    have HZ9 := Lib.hid hz9
    clear hz9
    go_wp2_with fail
    exact FIN.out _ _ HZ9.out (by omega) HQD.out HGD.out
end By
end Go.Proofs.YtfobogcccbddbaaGreatDoor
