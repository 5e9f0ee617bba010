/- A slice of keys that is handed reads as keys. No condition. -/
import Derived.Test.YtpgnckjgclbepaaDoorKyRow
import Derived.Test.YtpgnckjgclbepaaDoorKyM
namespace Go.Proofs.YtpgnckjgclbepaaDoor
namespace By
open Go.RowKit Go.ChangeShapes Go.WideShapes WireN LexN RevN KeyN
set_option linter.unusedVariables false
set_option linter.unusedSimpArgs false

theorem cellsKey : Tryd.prog.cellsOf 29 = 3 := by kernel_rfl
theorem cellsStrK : Tryd.prog.cellsOf 9 = 1 := by kernel_rfl
theorem cellsIntK : Tryd.prog.cellsOf 3 = 1 := by kernel_rfl
theorem spot_nonek {w : World} {b off : Nat} {sp : Option Nat} {v : Value} (h : w.cell? ⟨b, off, sp⟩ = some v) : sp = none := by
  unfold World.cell? at h
  split at h
  · cases sp with
    | none => rfl
    | some s => simp at h
  · simp at h
set_option maxRecDepth 100000 in
/-- A key's three cells. -/
theorem key_cells {H : Type} {enc : TypeId × Value → H} {W : World} {base : Nat} {spare : Nat → Bool} {held : Bool} {n : Nat} {a : Addr} {y : DataW H × List MemPlace}
    (h : (W.cells? base a 3).bind (DataW.trod enc Tryd.prog W base spare held n 29) = some y) :
    ∃ (k : Int) (s t : ByteArray), W.cell? a = some (.int .i64 k) ∧ W.cell? (a.add 1) = some (.string s) ∧ W.cell? (a.add 2) = some (.string t) ∧ s.size ≤ maxLen ∧ t.size ≤ maxLen := by
  obtain ⟨cs, hcs, hy⟩ := Option.bind_eq_some_iff.1 h
  obtain ⟨hb, hl, hc⟩ := World.cells?_some hcs
  obtain ⟨xs, m, _, rfl, hl2, hlen, hf⟩ := DataW.trod_struct Tryd.underlying29 hy
  have h0 := hf 0 _ rfl
  have h1 := hf 1 _ rfl
  have h2 := hf 2 _ rfl
  match xs, hlen with
  | [y0, y1, y2], _ =>
    match cs, hl with
    | [u, v, z], _ =>
      simp only [List.getElem?_cons_zero, List.getElem?_cons_succ] at h0 h1 h2
      change DataW.trod enc Tryd.prog W base spare held m 3 (([u, v, z].drop 0).take (Tryd.prog.cellsOf 3)) = some y0 at h0
      change DataW.trod enc Tryd.prog W base spare held m 9 (([u, v, z].drop 1).take (Tryd.prog.cellsOf 9)) = some y1 at h1
      change DataW.trod enc Tryd.prog W base spare held m 9 (([u, v, z].drop 2).take (Tryd.prog.cellsOf 9)) = some y2 at h2
      rw [cellsIntK] at h0
      rw [cellsStrK] at h1 h2
      simp only [List.drop_zero, List.drop_succ_cons, List.take_succ_cons, List.take_zero] at h0 h1 h2
      obtain ⟨k, e0, -, -⟩ := DataW.trod_int Tryd.underlying3 h0
      obtain ⟨s, e1, -, hs⟩ := DataW.trod_string Tryd.underlying9 h1
      obtain ⟨t, e2, -, ht⟩ := DataW.trod_string Tryd.underlying9 h2
      simp only [List.cons.injEq, and_true] at e0 e1 e2
      subst e0 e1 e2
      refine ⟨k, s, t, ?_, ?_, ?_, hs, ht⟩
      · have := hc 0 (by omega)
        simpa [Addr.add] using this
      · have := hc 1 (by omega)
        simpa using this
      · have := hc 2 (by omega)
        simpa using this
set_option maxRecDepth 100000 in
/-- An argument that is a slice of keys. -/
theorem keys_open {H : Type} {enc : TypeId × Value → H} {W : World} {b0 : Nat} {r : Reach} {v : Value} {d : DataW H} {ps : List MemPlace}
    (hval : Value.okWide Tryd.prog W r b0 23 v) (hd : DataW.Trod enc Tryd.prog W 0 (fun _ => true) true 23 v d ps) : ∃ ks, Kw W v ks := by
  obtain ⟨a0, l0, c0, rfl⟩ := Go.WideShapes.okWide_slice (P := Tryd.prog) (e := 29) Tryd.underlying23 hval
  obtain ⟨fuel, hf⟩ := hd
  rcases DataW.trod_slice Tryd.underlying23 hf with ⟨e, -⟩ | ⟨a, len, cap, elems, rest, m, -, e, -, -, hl, hm, hel, hc, -, -⟩
  · simp only [Value.cells, List.cons.injEq, Value.slice.injEq, and_true] at e
    obtain ⟨rfl, rfl, rfl⟩ := e
    exact ⟨[], Kw.nil W⟩
  · simp only [Value.cells, List.cons.injEq, Value.slice.injEq, and_true] at e
    obtain ⟨rfl, rfl, rfl⟩ := e
    rw [cellsKey] at hc
    have hex : ∀ k, k ≤ l0 → ∃ ks : List Ky, ks.length = k ∧ (∀ x ∈ ks, KyOk x) ∧ ∀ (j : Nat) (x : Ky), ks[j]? = some x → W.cell? (a.add (j * 3)) = some (.int .i64 x.1) ∧ W.cell? ((a.add (j * 3)).add 1) = some (.string (st x.2.1)) ∧ W.cell? ((a.add (j * 3)).add 2) = some (.string (st x.2.2)) := by
      intro k
      induction k with
      | zero => exact fun _ => ⟨[], rfl, fun f h => by simp at h, fun j f h => by simp at h⟩
      | succ k ih =>
        intro hk
        obtain ⟨ks, h1, h2, h3⟩ := ih (by omega)
        have hck := hc k (by omega)
        obtain ⟨y, hy⟩ : ∃ y, elems[k]? = some y := ⟨_, List.getElem?_eq_getElem (by omega)⟩
        rw [hy] at hck
        obtain ⟨q, s, t, c0, c1, c2, hs, ht⟩ := key_cells hck
        refine ⟨ks ++ [(q, bs s, bs t)], by simp [h1], fun f hf => ?_, fun j f hf => ?_⟩
        · rcases List.mem_append.1 hf with hf | hf
          · exact h2 f hf
          · obtain rfl : f = (q, bs s, bs t) := by simpa using hf
            exact ⟨⟨bs_lt s, bs_lt t⟩, by rw [bs_len]; exact hs, by rw [bs_len]; exact ht⟩
        · by_cases hj : j < ks.length
          · rw [List.getElem?_append_left hj] at hf
            exact h3 j f hf
          · have hj' : j = k := by
              have := (List.getElem?_eq_some_iff.1 hf).1
              simp at this
              omega
            subst hj'
            rw [List.getElem?_append_right (by omega), h1] at hf
            obtain rfl : f = (q, bs s, bs t) := by simpa using hf.symm
            rw [st_bs, st_bs]
            exact ⟨c0, c1, c2⟩
    obtain ⟨ks, h1, h2, h3⟩ := hex l0 (Nat.le_refl _)
    refine ⟨ks, ⟨some a, c0, by rw [h1], by omega, hm, ?_, fun h => nomatch h⟩, h2⟩
    by_cases h0 : l0 = 0
    · exact .inl (List.length_eq_zero_iff.1 (by omega))
    · obtain ⟨b, off, sp⟩ := a
      obtain ⟨f, hf⟩ : ∃ f, ks[0]? = some f := ⟨_, List.getElem?_eq_getElem (by omega)⟩
      have hsp : sp = none := by
        have := (h3 0 f hf).1
        simp only [Nat.zero_mul, Addr.add, if_true] at this
        exact spot_nonek this
      subst hsp
      refine .inr ⟨b, off, rfl, fun j f hf => ?_⟩
      have := h3 j f hf
      rw [Addr_add, Addr_add, Addr_add] at this
      exact this
end By
end Go.Proofs.YtpgnckjgclbepaaDoor
