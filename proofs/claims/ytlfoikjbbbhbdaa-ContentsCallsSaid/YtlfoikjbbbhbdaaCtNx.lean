/- A number is drawn below a great bound. Conditions: the tape has draws left; the bound is at most 10^15. -/
import Derived.Test.YtlfoikjbbbhbdaaMk
namespace Go.Proofs.Ytlfoikjbbbhbdaa
namespace By
open Go.RowKit WireN LexN
set_option linter.unusedVariables false
set_option linter.unusedSimpArgs false

set_option maxRecDepth 100000 in
set_option maxHeartbeats 400000 in
theorem Fold_big (v : Int) (hv : -9223372036854775808 ≤ v ∧ v ≤ 9223372036854775807) (n : Nat) (hn : 2 ≤ n) (hn2 : n ≤ 1000000000000000) (w : World) :
    Calls Try.prog 29 #[.int .i64 v, .int .i64 n] w fun e w' => (∃ r : Nat, r < n ∧ e = .returned (.int .i64 r)) ∧ w = w' := by
  obtain ⟨h1, h2⟩ := hv
  by_cases h : v < 0
  · obtain ⟨u, hu⟩ : ∃ u : Nat, v = -(u : Int) := ⟨(-v).toNat, by omega⟩
    subst hu
    have ht : (-(u : Int)).tmod (n : Int) = -((u % n : Nat) : Int) := by rw [Int.neg_tmod, Int.natCast_emod]; rfl
    have hlt : u % n < n := Nat.mod_lt _ (by omega)
    obtain ⟨m, hm⟩ : ∃ m, m = u % n := ⟨_, rfl⟩
    rw [← hm] at ht hlt
    have HT := Lib.hid ht
    clear hm ht
    by_cases h0 : m = 0
    · subst h0
      have ht : (-(u : Int)).tmod (n : Int) = 0 := by rw [HT.out]; rfl
      go_enter Try.func29, Try.ntmps29
      go_wp2_with fail
      go_ret
      exact ⟨⟨0, by omega, rfl⟩, rfl⟩
    · have ht := HT.out
      go_enter Try.func29, Try.ntmps29
      go_wp2_with fail
      go_ret
      exact ⟨⟨n - m, by omega, ret_int (by omega)⟩, rfl⟩
  · obtain ⟨u, hu⟩ : ∃ u : Nat, v = (u : Int) := ⟨v.toNat, by omega⟩
    subst hu
    have hlt : u % n < n := Nat.mod_lt _ (by omega)
    have HLT := Lib.hid hlt
    clear hlt
    go_enter Try.func29, Try.ntmps29
    go_wp2_with fail
    go_ret
    exact ⟨⟨u % n, HLT.out, ret_int (by simp)⟩, rfl⟩

set_option maxRecDepth 100000 in
set_option maxHeartbeats 1000000 in
theorem TNext_big {w0 w : World} {g at' : Nat} (ht : Tp w0 w g at') (ha : at' < 1000000) (n : Nat) (hn : 2 ≤ n) (hn2 : n ≤ 1000000000000000) :
    Calls Try.prog 18 #[.pointer (some ⟨g, 0, none⟩), .int .i64 n] w fun e w' => (∃ r : Nat, r < n ∧ e = .returned (.int .i64 r)) ∧ Tp w0 w' g (at' + 1) ∧ Only g w w' := by
  obtain ⟨ao, len, cap, zs, hs, hb⟩ := ht.ex
  obtain ⟨⟨ao', cap', e0, hc, hm, hat⟩, hlt, hsm⟩ := hs
  simp only [Value.slice.injEq] at e0
  obtain ⟨rfl, rfl, rfl⟩ := e0
  have HFIN : Hid (∀ (n1 : Nat) (w1 : World) (A : Int), A = ((at' + 1 : Nat) : Int) → w1 = ((w.drewN n1).setCell ⟨g, 1, none⟩ (.int .i64 A)) → Tp w0 w1 g (at' + 1) ∧ Only g w w1) := by
    intro n1 w1 A hA hw1
    subst hA hw1
    have ho : Only g w ((w.drewN n1).setCell ⟨g, 1, none⟩ (.int .i64 ((at' + 1 : Nat) : Int))) := Only.set (Only.drewN (Only.refl g w) n1) 1 _
    exact ⟨⟨⟨ao, zs.length, cap, zs, ⟨⟨ao, cap, rfl, hc, hm, hat⟩, hlt, hsm⟩, (hb.drewN n1).set 1 _⟩, Only.kp ht.kp ho ht.ge, ht.ge⟩, ho⟩
  have c0 := hb.cell 0 rfl; have c1 := hb.cell 1 rfl; have f1 := hb.free 1
  obtain ⟨len, hlen⟩ : ∃ len, len = zs.length := ⟨_, rfl⟩
  rw [← hlen] at c0 hc hsm
  by_cases hal : at' < len
  · obtain ⟨b, off, rfl, hcell⟩ : ∃ b off, ao = some ⟨b, off, none⟩ ∧ ∀ i : Nat, i < zs.length → w0.cell? ⟨b, off + i, none⟩ = some (.int .i64 (zs[i]?.getD 0)) := by
      rcases hat with h | h
      · rw [h] at hlen; simp at hlen; omega
      · exact h
    have cz := cell_kept (hcell at' (by omega)) ht.kp
    have hz := hlt at'
    obtain ⟨z, ez⟩ : ∃ z, z = zs[at']?.getD 0 := ⟨_, rfl⟩
    rw [← ez] at cz hz
    clear ez hcell hat hlt ht hb hlen hm
    go_enter Try.func18, Try.ntmps18
    go_wp2_with fail
    go_quiet (fail)
    go_wp2_with fail
    go_quiet (fail)
    go_wp2_with fail
    refine (Fold_big z hz n hn hn2 _).mono ?_
    rintro e w' ⟨⟨r, hr, rfl⟩, rfl⟩
    go_wp2_with fail
    go_ret
    exact ⟨⟨r, hr, rfl⟩, HFIN.out _ _ _ (by omega) rfl⟩
  · clear hat hlt ht hb hlen hm
    go_enter Try.func18, Try.ntmps18
    go_wp2_with fail
    go_quiet (fail)
    go_wp2_with fail
    refine (Fold_big ((at' : Int) * 7 % 11) (by omega) n hn hn2 _).mono ?_
    rintro e w' ⟨⟨r, hr, rfl⟩, rfl⟩
    go_wp2_with fail
    go_ret
    exact ⟨⟨r, hr, rfl⟩, HFIN.out _ _ _ (by omega) rfl⟩

theorem Next_big {w0 w : World} {g n : Nat} (ht : Tq w0 w g (n + 1)) (m : Nat) (hm : 1 ≤ m) (hm2 : m ≤ 1000000000000000) :
    Calls Try.prog 18 #[.pointer (some ⟨g, 0, none⟩), .int .i64 m] w fun e w' => (∃ r : Nat, r < m ∧ e = .returned (.int .i64 r)) ∧ Tq w0 w' g n ∧ Gr g w w' := by
  obtain ⟨a, h1, h2⟩ := ht
  by_cases h : m = 1
  · subst h
    refine (TNext_one h2 (by omega)).mono ?_
    rintro e w' ⟨rfl, h3, h4⟩
    exact ⟨⟨0, by omega, rfl⟩, ⟨a + 1, by omega, h3⟩, Only.gr h4⟩
  · refine (TNext_big h2 (by omega) m (by omega) hm2).mono ?_
    rintro e w' ⟨⟨r, hr, rfl⟩, h3, h4⟩
    exact ⟨⟨r, hr, rfl⟩, ⟨a + 1, by omega, h3⟩, Only.gr h4⟩
end By
end Go.Proofs.Ytlfoikjbbbhbdaa
