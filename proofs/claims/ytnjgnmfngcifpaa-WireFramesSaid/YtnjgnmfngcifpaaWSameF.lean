/- Equal rows of frames are found equal. Condition: each row holds the frames that are named. -/
import Derived.Test.YtnjgnmfngcifpaaWRFrs
namespace Go.Proofs.Ytnjgnmfngcifpaa
namespace By
open Go.RowKit Go.Shelf WireN
set_option linter.unusedVariables false
set_option linter.unusedSimpArgs false

/-- A slice value that reads as these frames. -/
structure Fs (w : World) (v : Value) (fs : List (Nat × List Nat)) : Prop where
  ex : ∃ (ao : Option Addr) (c : Nat), v = .slice ao fs.length c ∧ fs.length ≤ c ∧
    (fs ≠ [] → ∃ g, ao = some ⟨g, 0, none⟩ ∧ ∀ j x, fs[j]? = some x → ∃ u, w.cell? ⟨g, j * 2, none⟩ = some (.int .i64 (x.1 : Nat)) ∧ w.cell? ⟨g, j * 2 + 1, none⟩ = some u ∧ Sl w u x.2)
  few : fs.length ≤ 1000000
theorem Fs.keep {w w' : World} {v : Value} {fs : List (Nat × List Nat)} (h : Fs w v fs) (hk : Kp w w') : Fs w' v fs := by
  obtain ⟨⟨ao, c, h1, h2, h3⟩, h4⟩ := h
  refine ⟨⟨ao, c, h1, h2, fun hf => ?_⟩, h4⟩
  obtain ⟨g, hg, hc⟩ := h3 hf
  refine ⟨g, hg, fun j x hx => ?_⟩
  obtain ⟨u, c0, c1, hs⟩ := hc j x hx
  exact ⟨u, cell_kept c0 hk, cell_kept c1 hk, hs.keep hk⟩
theorem fcells_at : ∀ (fs : List (Nat × List Nat)) (vs : List Value) (j : Nat) (x : Nat × List Nat), vs.length = fs.length → fs[j]? = some x → ∃ u, vs[j]? = some u ∧ (fcells fs vs)[j * 2]? = some (.int .i64 (x.1 : Nat)) ∧ (fcells fs vs)[j * 2 + 1]? = some u
  | [], _, j, x, _, hx => by simp at hx
  | y :: fs, [], j, x, h, _ => by simp at h
  | y :: fs, u :: vs, 0, x, h, hx => by
    simp at hx
    subst hx
    exact ⟨u, rfl, rfl, rfl⟩
  | y :: fs, u :: vs, j + 1, x, h, hx => by
    obtain ⟨u', h1, h2, h3⟩ := fcells_at fs vs j x (by simpa using h) (by simpa using hx)
    refine ⟨u', by simpa using h1, ?_, ?_⟩
    · rw [show (j + 1) * 2 = j * 2 + 1 + 1 by omega]; simpa [fcells] using h2
    · rw [show (j + 1) * 2 + 1 = j * 2 + 1 + 1 + 1 by omega]; simpa [fcells] using h3
theorem Fs.of_own {W : World} {base : Nat} {vo : Value} {fs : List (Nat × List Nat)} {vps : List Value} (h : W.ownsRow base 27 2 vo fs.length (fcells fs vps)) (hl : vps.length = fs.length)
    (hs : ∀ (j : Nat) (x : Nat × List Nat) (v : Value), fs[j]? = some x → vps[j]? = some v → Sl W v x.2) (hf : fs.length ≤ 1000000) : Fs W vo fs := by
  refine ⟨?_, hf⟩
  rcases h.2 with ⟨rfl, h0⟩ | ⟨g, cap, cur, rfl, hb, hg, hnc, hcm, hsz, htake⟩
  · exact ⟨none, 0, by rw [h0], by omega, fun hne => absurd (List.length_eq_zero_iff.1 h0) hne⟩
  · refine ⟨some ⟨g, 0, none⟩, cap, rfl, hnc, fun _ => ⟨g, rfl, fun j x hx => ?_⟩⟩
    have hj : j < fs.length := (List.getElem?_eq_some_iff.1 hx).1
    obtain ⟨u, h1, h2, h3⟩ := fcells_at fs vps j x hl hx
    have hcl := fcells_len fs vps hl
    refine ⟨u, ?_, ?_, hs j x u hx h1⟩
    · rw [cell_of_row W g (j * 2) cur _ (0, 0) hg]
      rw [← htake, List.getElem?_take, if_pos (by omega)] at h2
      simpa using h2
    · rw [cell_of_row W g (j * 2 + 1) cur _ (0, 0) hg]
      rw [← htake, List.getElem?_take, if_pos (by omega)] at h3
      simpa using h3
theorem RF.fs {w W : World} {xs : List Nat} {q : Nat} {vo : Value} {fs : List (Nat × List Nat)} {vps : List Value} (h : RF w W xs q vo fs vps) (hsm : xs.length ≤ 1000000) : Fs W vo fs :=
  Fs.of_own h.own h.ln (fun j x v hx hv => (h.sl j x v hx hv).1) (by have := h.few; have := h.le; omega)
theorem FR.fs {w W : World} {xs : List Nat} {q : Nat} {vo : Value} {fs : List (Nat × List Nat)} {vps : List Value} (h : FR w W xs q vo fs vps) (hsm : xs.length ≤ 1000000) : Fs W vo fs :=
  Fs.of_own h.own h.ln (fun j x v hx hv => (h.sl j x v hx hv).1) (by have := h.few; have := h.le; omega)
/-- One frame in memory of its own. -/
theorem Fs.one {w : World} {g : Nat} {t : TypeId} {K : Nat} {u : Value} {PL : List Nat} (hb : Blk w g t #[.int .i64 (K : Nat), u]) (hs : Sl w u PL) : Fs w (.slice (some ⟨g, 0, none⟩) 1 1) [(K, PL)] := by
  refine ⟨⟨some ⟨g, 0, none⟩, 1, rfl, Nat.le_refl _, fun _ => ⟨g, rfl, fun j x hx => ?_⟩⟩, by simp⟩
  match j, hx with
  | 0, hx =>
    simp at hx
    subst hx
    exact ⟨u, hb.cell 0 rfl, hb.cell 1 rfl, hs⟩
  | j + 1, hx => simp at hx

set_option maxRecDepth 100000 in
set_option maxHeartbeats 1500000 in
theorem SameF_any {va vb : Value} {fs : List (Nat × List Nat)} {w : World} (ha : Fs w va fs) (hb : Fs w vb fs) :
    Calls Try.prog 13 #[va, vb] w fun e w' => e = .returned (.bool true) ∧ Kp w w' := by
  obtain ⟨aa, ca, hva, hca, -⟩ := ha.ex
  obtain ⟨ab, cb, hvb, hcb, -⟩ := hb.ex
  subst hva hvb
  obtain ⟨n, hn⟩ : ∃ n, n = fs.length := ⟨_, rfl⟩
  have hnm : (n : Int) ≤ 1000000 := by have := ha.few; omega
  rw [← hn] at ha hb hca hcb ⊢
  have hcai : (n : Int) ≤ (ca : Int) := by omega
  have hcbi : (n : Int) ≤ (cb : Int) := by omega
  have q3 : ((n : Int) != (n : Int)) = false := by simp
  have HA := Lib.hid ha; have HB := Lib.hid hb; have HNN := Lib.hid hn
  clear ha hb hca hcb hn
  go_enter Try.func13, Try.ntmps13
  go_wp2_with fail
  go_loopw [5] (fun q wr => ∃ k : Nat, q = .int .i64 k ∧ k ≤ n ∧ Kp w wr) (fun q _ => n - (intOf q).toNat)
  case atStart => exact ⟨0, rfl, Nat.zero_le _, Kp.refl _⟩
  case round =>
    obtain ⟨k, rfl, hk, hkp⟩ := hrel
    rename World => wx
    have HKP := Lib.hid hkp
    clear hkp
    by_cases hkn : k < n
    · have hkl : k < fs.length := by have := HNN.out; omega
      have hne : fs ≠ [] := by intro e; rw [e] at hkl; simp at hkl
      obtain ⟨⟨K, PL⟩, ht⟩ : ∃ t, t = fs[k] := ⟨_, rfl⟩
      have htk : fs[k]? = some (K, PL) := by rw [ht]; exact List.getElem?_eq_getElem hkl
      obtain ⟨aa', ca', e1, -, hc1⟩ := (HA.out.keep HKP.out).ex
      obtain ⟨ab', cb', e2, -, hc2⟩ := (HB.out.keep HKP.out).ex
      injection e1 with e1a e1b e1c
      injection e2 with e2a e2b e2c
      subst e1a e1c e2a e2c
      obtain ⟨g1, rfl, hcell1⟩ := hc1 hne
      obtain ⟨g2, rfl, hcell2⟩ := hc2 hne
      obtain ⟨u1, a0, a1, s1⟩ := hcell1 k _ htk
      obtain ⟨u2, b0, b1, s2⟩ := hcell2 k _ htk
      simp only at a0 b0 s1 s2
      obtain ⟨o1, l1, rfl, -, -, -⟩ := s1.open3
      obtain ⟨o2, l2, rfl, -, -, -⟩ := s2.open3
      obtain ⟨L, hL⟩ : ∃ L, L = PL.length := ⟨_, rfl⟩
      rw [← hL] at a1 b1 s1 s2
      have HSAME : Hid (∀ w', Kp wx w' → Calls Try.prog 8 #[.slice o1 L l1, .slice o2 L l2] w' fun e w'' => e = .returned (.bool true) ∧ w' = w'') := Lib.hid (fun w' hk' =>
        (Same_any (s1.keep hk') (s2.keep hk')).mono fun e w'' h => ⟨by rw [h.1, decide_eq_true rfl], h.2⟩)
      have q1 : ((K : Int) != (K : Int)) = false := by simp
      clear hcell1 hcell2 hc1 hc2 ht htk hkl e1b e2b s1 s2 hL hne
      go_wp2_with fail
      go_region_held3 (fun w' => w'.cell? ⟨g1, k * 2, none⟩ = some (.int .i64 (K : Nat)) ∧ w'.cell? ⟨g1, k * 2 + 1, none⟩ = some (.slice o1 L l1) ∧ w'.cell? ⟨g2, k * 2, none⟩ = some (.int .i64 (K : Nat)) ∧ w'.cell? ⟨g2, k * 2 + 1, none⟩ = some (.slice o2 L l2))
        (first
          | exact ⟨a0, a1, b0, b1⟩
          | fail "no keep")
        (first
          | (go_at_call 8; refine (HSAME.out _ (kp_drew _)).mono ?_; rintro e w5 ⟨rfl, rfl⟩)
          | fail "no arm")
      go_wp2_with fail
      exact ⟨⟨k + 1, by go_num, by omega, Kp.trans HKP.out (kp_drew _)⟩, by simp [intOf]; omega⟩
    · go_wp2_with fail
      go_ret
      exact ⟨rfl, HKP.out⟩
end By
end Go.Proofs.Ytnjgnmfngcifpaa
