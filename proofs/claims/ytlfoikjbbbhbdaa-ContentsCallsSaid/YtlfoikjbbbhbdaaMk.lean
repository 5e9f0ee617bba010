/- Drawing from the tape: numbers, chances, picks, one of some strings, digits; sums of strings. Conditions: the tape has so many draws left; the slices lie apart from it. -/
import Derived.Test.YtlfoikjbbbhbdaaTape
import Derived.Test.YtlfoikjbbbhbdaaMLx
namespace Go.Proofs.Ytlfoikjbbbhbdaa
namespace By
open Go.RowKit WireN LexN
set_option linter.unusedVariables false
set_option linter.unusedSimpArgs false

/-- The tape has n draws left. -/
def Tq (w0 w : World) (g n : Nat) : Prop := ∃ a, a + n ≤ 1000000 ∧ Tp w0 w g a
theorem Tq.less {w0 w : World} {g n m : Nat} (h : Tq w0 w g n) (hm : m ≤ n) : Tq w0 w g m := by
  obtain ⟨a, h1, h2⟩ := h
  exact ⟨a, by omega, h2⟩
theorem Tq.keep {w0 w w' : World} {g n : Nat} (h : Tq w0 w g n) (hk : Kp w w') : Tq w0 w' g n := by
  obtain ⟨a, h1, h2⟩ := h
  exact ⟨a, h1, h2.keep hk⟩
theorem Tq.lt {w0 w : World} {g n : Nat} (h : Tq w0 w g n) : g < w.heap.size := by
  obtain ⟨a, h1, h2⟩ := h
  obtain ⟨_, _, _, _, _, hb⟩ := h2.ex
  exact hb.lt
theorem Tq.ge {w0 w : World} {g n : Nat} (h : Tq w0 w g n) : w0.heap.size ≤ g := by
  obtain ⟨a, h1, h2⟩ := h
  exact h2.ge
theorem Tq.base {w0 w : World} {g n : Nat} (h : Tq w0 w g n) : Kp w0 w := by
  obtain ⟨a, h1, h2⟩ := h
  exact h2.kp
theorem Tq.by {w0 w w' : World} {g n : Nat} {row : Option Nat} (h : Tq w0 w g n) (hg : w.grownBy w' row) (hr : ∀ r, row = some r → w0.heap.size ≤ r ∧ g ≠ r) : Tq w0 w' g n := by
  obtain ⟨a, h1, h2⟩ := h
  exact ⟨a, h1, h2.by hg hr⟩
theorem Tq.only {w0 w w' : World} {g r n : Nat} (h : Tq w0 w g n) (ho : Only r w w') (hr : w0.heap.size ≤ r) (hne : g ≠ r) : Tq w0 w' g n := h.by (Only.gr ho) (fun b hb => by injection hb with hb; subst hb; exact ⟨hr, hne⟩)
theorem cell_gr {w w' : World} {g b i : Nat} {v : Value} (hg : Gr g w w') (hc : w.cell? ⟨b, i, none⟩ = some v) (hne : b ≠ g) : w'.cell? ⟨b, i, none⟩ = some v := by
  have hb := hg.block b (World.block_lt_of_cell? w _ hc) (fun e => hne (by injection e))
  unfold World.cell? at hc ⊢
  rw [hb]
  exact hc
theorem Gr.drew {g : Nat} {w w' : World} (h : Gr g w w') : Gr g w w'.drew := h.trans ((kp_drew w').gr g)

set_option maxRecDepth 100000 in
set_option maxHeartbeats 400000 in
theorem Fold_one (v : Int) (w : World) : Calls Try.prog 29 #[.int .i64 v, .int .i64 1] w fun e w' => e = .returned (.int .i64 0) ∧ w = w' := by
  go_enter Try.func29, Try.ntmps29
  go_wp2_with fail
  go_ret
  exact ⟨rfl, rfl⟩
set_option maxRecDepth 100000 in
set_option maxHeartbeats 1000000 in
theorem TNext_one {w0 w : World} {g at' : Nat} (ht : Tp w0 w g at') (ha : at' < 1000000) :
    Calls Try.prog 18 #[.pointer (some ⟨g, 0, none⟩), .int .i64 1] w fun e w' => e = .returned (.int .i64 0) ∧ Tp w0 w' g (at' + 1) ∧ Only g w w' := by
  obtain ⟨ao, len, cap, zs, hs, hb⟩ := ht.ex
  obtain ⟨⟨ao', cap', e0, hc, hm, hat⟩, hlt, hsm⟩ := hs
  simp only [Value.slice.injEq] at e0
  obtain ⟨rfl, rfl, rfl⟩ := e0
  have HFIN : Hid (∀ (n1 : Nat) (w1 : World) (A : Int), A = ((at' + 1 : Nat) : Int) → w1 = ((w.drewN n1).setCell ⟨g, 1, none⟩ (.int .i64 A)) → Tp w0 w1 g (at' + 1) ∧ Only g w w1) := by
    intro n1 w1 A hA hw1
    subst hA hw1
    have ho : Only g w ((w.drewN n1).setCell ⟨g, 1, none⟩ (.int .i64 ((at' + 1 : Nat) : Int))) := Only.set (Only.drewN (Only.refl g w) n1) 1 _
    exact ⟨⟨⟨ao, zs.length, cap, zs, ⟨⟨ao, cap, rfl, hc, hm, hat⟩, hlt, hsm⟩, (hb.drewN n1).set 1 _⟩, Only.kp ht.kp ho ht.ge, ht.ge⟩, ho⟩
  have c0 := hb.cell 0 rfl; have c1 := hb.cell 1 rfl; have f1 := hb.free 1
  obtain ⟨len, hlen⟩ : ∃ len, len = zs.length := ⟨_, rfl⟩
  rw [← hlen] at c0 hc hsm
  by_cases hal : at' < len
  · obtain ⟨b, off, rfl, hcell⟩ : ∃ b off, ao = some ⟨b, off, none⟩ ∧ ∀ i : Nat, i < zs.length → w0.cell? ⟨b, off + i, none⟩ = some (.int .i64 (zs[i]?.getD 0)) := by
      rcases hat with h | h
      · rw [h] at hlen; simp at hlen; omega
      · exact h
    have cz := cell_kept (hcell at' (by omega)) ht.kp
    have hz := hlt at'
    obtain ⟨z, ez⟩ : ∃ z, z = zs[at']?.getD 0 := ⟨_, rfl⟩
    rw [← ez] at cz hz
    clear ez hcell hat hlt ht hb hlen hm
    go_enter Try.func18, Try.ntmps18
    go_wp2_with fail
    go_quiet (fail)
    go_wp2_with fail
    go_quiet (fail)
    go_wp2_with fail
    refine (Fold_one z _).mono ?_
    rintro e w' ⟨rfl, rfl⟩
    go_wp2_with fail
    go_ret
    exact ⟨rfl, HFIN.out _ _ _ (by omega) rfl⟩
  · clear hat hlt ht hb hlen hm
    go_enter Try.func18, Try.ntmps18
    go_wp2_with fail
    go_quiet (fail)
    go_wp2_with fail
    refine (Fold_one ((at' : Int) * 7 % 11) _).mono ?_
    rintro e w' ⟨rfl, rfl⟩
    go_wp2_with fail
    go_ret
    exact ⟨rfl, HFIN.out _ _ _ (by omega) rfl⟩
/-- One draw. -/
theorem Next_q {w0 w : World} {g n : Nat} (ht : Tq w0 w g (n + 1)) (m : Nat) (hm : 1 ≤ m) (hm2 : m ≤ 1000000) :
    Calls Try.prog 18 #[.pointer (some ⟨g, 0, none⟩), .int .i64 m] w fun e w' => (∃ r : Nat, r < m ∧ e = .returned (.int .i64 r)) ∧ Tq w0 w' g n ∧ Gr g w w' := by
  obtain ⟨a, h1, h2⟩ := ht
  by_cases h : m = 1
  · subst h
    refine (TNext_one h2 (by omega)).mono ?_
    rintro e w' ⟨rfl, h3, h4⟩
    exact ⟨⟨0, by omega, rfl⟩, ⟨a + 1, by omega, h3⟩, Only.gr h4⟩
  · refine (TNext_any h2 (by omega) m (by omega) hm2).mono ?_
    rintro e w' ⟨⟨r, hr, rfl⟩, h3, h4⟩
    exact ⟨⟨r, hr, rfl⟩, ⟨a + 1, by omega, h3⟩, Only.gr h4⟩
set_option maxRecDepth 100000 in
set_option maxHeartbeats 400000 in
theorem Chance_q {w0 w : World} {g n : Nat} (ht : Tq w0 w g (n + 1)) (k m : Nat) (hm : 1 ≤ m) (hm2 : m ≤ 1000000) :
    Calls Try.prog 8 #[.pointer (some ⟨g, 0, none⟩), .int .i64 (k : Nat), .int .i64 m] w fun e w' => (∃ b : Bool, e = .returned (.bool b)) ∧ Tq w0 w' g n ∧ Gr g w w' := by
  have HC := Lib.hid (Next_q ht m hm hm2)
  clear ht
  go_enter Try.func8, Try.ntmps8
  go_wp2_with fail
  refine HC.out.mono ?_
  rintro e w1 ⟨⟨r, hr, rfl⟩, hq, hg⟩
  have HQ := Lib.hid hq; have HG := Lib.hid hg
  clear hq hg
  go_wp2_with fail
  go_ret
  exact ⟨⟨_, rfl⟩, HQ.out, HG.out⟩
/-- A slice of a few short strings, apart from block g. -/
structure Ps (g : Nat) (w : World) (v : Value) (ss : List ByteArray) : Prop where
  ex : ∃ ao cap, v = .slice ao ss.length cap ∧ ss.length ≤ cap ∧ (ss ≠ [] → ∃ b, ao = some ⟨b, 0, none⟩ ∧ b ≠ g ∧ ∀ i s, ss[i]? = some s → w.cell? ⟨b, i, none⟩ = some (.string s))
  sm : ∀ s ∈ ss, s.size ≤ 8
  few : ss.length ≤ 10
theorem Ps.gr {g : Nat} {w w' : World} {v : Value} {ss : List ByteArray} (h : Ps g w v ss) (hg : Gr g w w') : Ps g w' v ss := by
  obtain ⟨⟨ao, cap, h1, h2, h3⟩, h4, h5⟩ := h
  refine ⟨⟨ao, cap, h1, h2, fun hne => ?_⟩, h4, h5⟩
  obtain ⟨b, e, hb, hc⟩ := h3 hne
  exact ⟨b, e, hb, fun i s hs => cell_gr hg (hc i s hs) hb⟩
theorem Ps.nil (g : Nat) (w : World) : Ps g w (.slice none 0 0) [] := ⟨⟨none, 0, rfl, Nat.le_refl _, fun h => absurd rfl h⟩, fun s h => by simp at h, by simp⟩
theorem Ps.blk {g : Nat} {w : World} {b : Nat} {t : TypeId} {ss : List ByteArray} (h : Blk w b t (ss.map Value.string).toArray) (hb : b ≠ g) (hs : ∀ s ∈ ss, s.size ≤ 8) (hf : ss.length ≤ 10) : Ps g w (.slice (some ⟨b, 0, none⟩) ss.length ss.length) ss := by
  refine ⟨⟨_, _, rfl, Nat.le_refl _, fun _ => ⟨b, rfl, hb, fun i s hi => ?_⟩⟩, hs, hf⟩
  refine h.cell i ?_
  simp [hi]
/-- The sum of two strings. -/
theorem addB (a b : ByteArray) {m n : Nat} (ha : a.size ≤ m) (hb : b.size ≤ n) (h : m + n ≤ 1000000) : ∃ x : ByteArray, x.size ≤ m + n ∧ ∀ w, (Op.stringOp .add a b).run Try.prog w = .ok (.string x) w := by
  refine ⟨a ++ b, by rw [ByteArray.size_append]; omega, fun w => ?_⟩
  exact run_string_add_sum w a b (by omega)
set_option maxRecDepth 100000 in
set_option maxHeartbeats 1000000 in
theorem Digit_q (n : Nat) (h : n < 10) (w : World) : Calls Try.prog 33 #[.int .i64 (n : Nat)] w fun e w' => (∃ s : ByteArray, e = .returned (.string s) ∧ s.size ≤ 1) ∧ w = w' := by
  obtain ⟨S, hS⟩ : ∃ S, S = st (sub [48, 49, 50, 51, 52, 53, 54, 55, 56, 57] n (n + 1)) := ⟨_, rfl⟩
  have hcut : ∀ w, (Instr.slice 9 (.string ⟨#[48, 49, 50, 51, 52, 53, 54, 55, 56, 57]⟩) (some (.int .i64 (n : Int))) (some (.int .i64 ((n : Int) + 1))) none).run Try.prog w = .ok (.string S) w := fun w => by
    rw [hS]
    exact cut (l := [48, 49, 50, 51, 52, 53, 54, 55, 56, 57]) (i := n) (j := n + 1) (by omega) (by simp; omega) w
  have HZ : Hid (S.size ≤ 1) := Lib.hid (by rw [hS, st_size]; unfold sub; simp; omega)
  have hi : (n : Int) < 10 := by omega
  clear hS h
  go_enter Try.func33, Try.ntmps33
  go_wp2_with fail
  go_ret
  exact ⟨⟨S, rfl, HZ.out⟩, rfl⟩
set_option maxRecDepth 100000 in
set_option maxHeartbeats 1000000 in
theorem Digits_k : ∀ (k n : Nat), n < 10 ^ (k + 1) → k ≤ 17 → ∀ w : World, Calls Try.prog 33 #[.int .i64 (n : Nat)] w fun e w' => (∃ s : ByteArray, e = .returned (.string s) ∧ s.size ≤ k + 1) ∧ w = w'
  | 0, n, hn, hk, w => (Digit_q n (by simpa using hn) w).mono fun _ _ h => h
  | k + 1, n, hn, hk, w => by
    by_cases h : n < 10
    · exact (Digit_q n h w).mono fun e w' ⟨⟨s, h1, h2⟩, h3⟩ => ⟨⟨s, h1, by omega⟩, h3⟩
    · obtain ⟨m1, hm1⟩ : ∃ m, m = n / 10 := ⟨_, rfl⟩
      obtain ⟨m2, hm2⟩ : ∃ m, m = n % 10 := ⟨_, rfl⟩
      have e1 : (n : Int) / 10 = (m1 : Int) := by omega
      have e2 : (n : Int) % 10 = (m2 : Int) := by omega
      have hi : (10 : Int) ≤ (n : Int) := by omega
      have hp : 10 ^ (k + 1 + 1) = 10 ^ (k + 1) * 10 := Nat.pow_succ _ _
      have H1 := Lib.hid (Digits_k k m1 (by rw [hp] at hn; omega) (by omega))
      have H2 := Lib.hid (Digit_q m2 (by omega))
      have HK : Hid (k ≤ 16) := Lib.hid (by omega)
      have hnb : (n : Int) ≤ 9223372036854775807 := by
        have : 10 ^ (k + 1 + 1) ≤ 10 ^ 18 := Nat.pow_le_pow_right (by omega) (by omega)
        have h18 : (10 : Nat) ^ 18 = 1000000000000000000 := by decide
        omega
      clear hm1 hm2 hn hk h hp
      go_enter Try.func33, Try.ntmps33
      go_wp2_with fail
      refine (H1.out _).mono ?_
      rintro e w' ⟨⟨s1, rfl, hz1⟩, rfl⟩
      have HZ1 := Lib.hid hz1
      clear hz1
      go_wp2_with fail
      refine (H2.out _).mono ?_
      rintro e w' ⟨⟨s2, rfl, hz2⟩, rfl⟩
      obtain ⟨x, hx, hadd⟩ := addB s1 s2 HZ1.out hz2 (by have := HK.out; omega)
      have HX := Lib.hid hx
      clear hz2 hx
      go_wp2_with fail
      go_ret
      exact ⟨⟨x, rfl, HX.out⟩, rfl⟩
end By
end Go.Proofs.Ytlfoikjbbbhbdaa
