/- Equal rows of frames are found equal. Condition: each row holds the frames that are named. -/
import Derived.Test.YtlfoikjbbbhbdaaWRFrs
namespace Go.Proofs.Ytlfoikjbbbhbdaa
namespace By
open Go.RowKit Go.Shelf WireN
set_option linter.unusedVariables false
set_option linter.unusedSimpArgs false

/-- A slice value that reads as these frames. -/
structure Fs (w : World) (v : Value) (fs : List (Nat × List Nat)) : Prop where
  ex : ∃ (ao : Option Addr) (c : Nat), v = .slice ao fs.length c ∧ fs.length ≤ c ∧
    (fs ≠ [] → ∃ g, ao = some ⟨g, 0, none⟩ ∧ ∀ j x, fs[j]? = some x → ∃ u, w.cell? ⟨g, j * 2, none⟩ = some (.int .i64 (x.1 : Nat)) ∧ w.cell? ⟨g, j * 2 + 1, none⟩ = some u ∧ Sl w u x.2)
  few : fs.length ≤ 1000000
theorem Fs.keep {w w' : World} {v : Value} {fs : List (Nat × List Nat)} (h : Fs w v fs) (hk : Kp w w') : Fs w' v fs := by
  obtain ⟨⟨ao, c, h1, h2, h3⟩, h4⟩ := h
  refine ⟨⟨ao, c, h1, h2, fun hf => ?_⟩, h4⟩
  obtain ⟨g, hg, hc⟩ := h3 hf
  refine ⟨g, hg, fun j x hx => ?_⟩
  obtain ⟨u, c0, c1, hs⟩ := hc j x hx
  exact ⟨u, cell_kept c0 hk, cell_kept c1 hk, hs.keep hk⟩
theorem fcells_at : ∀ (fs : List (Nat × List Nat)) (vs : List Value) (j : Nat) (x : Nat × List Nat), vs.length = fs.length → fs[j]? = some x → ∃ u, vs[j]? = some u ∧ (fcells fs vs)[j * 2]? = some (.int .i64 (x.1 : Nat)) ∧ (fcells fs vs)[j * 2 + 1]? = some u
  | [], _, j, x, _, hx => by simp at hx
  | y :: fs, [], j, x, h, _ => by simp at h
  | y :: fs, u :: vs, 0, x, h, hx => by
    simp at hx
    subst hx
    exact ⟨u, rfl, rfl, rfl⟩
  | y :: fs, u :: vs, j + 1, x, h, hx => by
    obtain ⟨u', h1, h2, h3⟩ := fcells_at fs vs j x (by simpa using h) (by simpa using hx)
    refine ⟨u', by simpa using h1, ?_, ?_⟩
    · rw [show (j + 1) * 2 = j * 2 + 1 + 1 by omega]; simpa [fcells] using h2
    · rw [show (j + 1) * 2 + 1 = j * 2 + 1 + 1 + 1 by omega]; simpa [fcells] using h3
theorem Fs.of_own {W : World} {base : Nat} {vo : Value} {fs : List (Nat × List Nat)} {vps : List Value} (h : W.ownsRow base 80 2 vo fs.length (fcells fs vps)) (hl : vps.length = fs.length)
    (hs : ∀ (j : Nat) (x : Nat × List Nat) (v : Value), fs[j]? = some x → vps[j]? = some v → Sl W v x.2) (hf : fs.length ≤ 1000000) : Fs W vo fs := by
  refine ⟨?_, hf⟩
  rcases h.2 with ⟨rfl, h0⟩ | ⟨g, cap, cur, rfl, hb, hg, hnc, hcm, hsz, htake⟩
  · exact ⟨none, 0, by rw [h0], by omega, fun hne => absurd (List.length_eq_zero_iff.1 h0) hne⟩
  · refine ⟨some ⟨g, 0, none⟩, cap, rfl, hnc, fun _ => ⟨g, rfl, fun j x hx => ?_⟩⟩
    have hj : j < fs.length := (List.getElem?_eq_some_iff.1 hx).1
    obtain ⟨u, h1, h2, h3⟩ := fcells_at fs vps j x hl hx
    have hcl := fcells_len fs vps hl
    refine ⟨u, ?_, ?_, hs j x u hx h1⟩
    · rw [cell_of_row W g (j * 2) cur _ (0, 0) hg]
      rw [← htake, List.getElem?_take, if_pos (by omega)] at h2
      simpa using h2
    · rw [cell_of_row W g (j * 2 + 1) cur _ (0, 0) hg]
      rw [← htake, List.getElem?_take, if_pos (by omega)] at h3
      simpa using h3
theorem RF.fs {w W : World} {xs : List Nat} {q : Nat} {vo : Value} {fs : List (Nat × List Nat)} {vps : List Value} (h : RF w W xs q vo fs vps) (hsm : xs.length ≤ 1000000) : Fs W vo fs :=
  Fs.of_own h.own h.ln (fun j x v hx hv => (h.sl j x v hx hv).1) (by have := h.few; have := h.le; omega)
theorem FR.fs {w W : World} {xs : List Nat} {q : Nat} {vo : Value} {fs : List (Nat × List Nat)} {vps : List Value} (h : FR w W xs q vo fs vps) (hsm : xs.length ≤ 1000000) : Fs W vo fs :=
  Fs.of_own h.own h.ln (fun j x v hx hv => (h.sl j x v hx hv).1) (by have := h.few; have := h.le; omega)
/-- One frame in memory of its own. -/
theorem Fs.one {w : World} {g : Nat} {t : TypeId} {K : Nat} {u : Value} {PL : List Nat} (hb : Blk w g t #[.int .i64 (K : Nat), u]) (hs : Sl w u PL) : Fs w (.slice (some ⟨g, 0, none⟩) 1 1) [(K, PL)] := by
  refine ⟨⟨some ⟨g, 0, none⟩, 1, rfl, Nat.le_refl _, fun _ => ⟨g, rfl, fun j x hx => ?_⟩⟩, by simp⟩
  match j, hx with
  | 0, hx =>
    simp at hx
    subst hx
    exact ⟨u, hb.cell 0 rfl, hb.cell 1 rfl, hs⟩
  | j + 1, hx => simp at hx

end By
end Go.Proofs.Ytlfoikjbbbhbdaa
