/- A slice of changes that is handed reads as changes. No condition. -/
import Derived.Test.YtfobogcccbddbaaGreatDoorZaj
import Derived.Test.YtfobogcccbddbaaGreatDoorZal
namespace Go.Proofs.YtfobogcccbddbaaGreatDoor
namespace By
open Go.RowKit Go.ChangeShapes Go.WideShapes WireN LexN RevN FdN
set_option linter.unusedVariables false
set_option linter.unusedSimpArgs false

theorem cellsChg : Tryz.prog.cellsOf 50 = 4 := by kernel_rfl
theorem cellsIntC : Tryz.prog.cellsOf 3 = 1 := by kernel_rfl
set_option maxRecDepth 100000 in
/-- A change's four cells. -/
theorem chg_cells {H : Type} {enc : TypeId × Value → H} {W : World} {base : Nat} {spare : Nat → Bool} {held : Bool} {n : Nat} {a : Addr} {y : DataW H × List MemPlace}
    (h : (W.cells? base a 4).bind (DataW.trod enc Tryz.prog W base spare held n 50) = some y) :
    ∃ (k : Int) (s t r : ByteArray), (W.cell? a = some (.int .i64 k) ∧ W.cell? (a.add 1) = some (.string s) ∧ W.cell? (a.add 2) = some (.string t) ∧ W.cell? (a.add 3) = some (.string r)) ∧ (y.1 = .agg [.lit (.int .i64 k), .lit (.string s.data.toList), .lit (.string t.data.toList), .lit (.string r.data.toList)]) ∧ (-9223372036854775808 ≤ k ∧ k ≤ 9223372036854775807) := by
  obtain ⟨cs, hcs, hy⟩ := Option.bind_eq_some_iff.1 h
  obtain ⟨hb, hl, hc⟩ := World.cells?_some hcs
  obtain ⟨xs, m, _, rfl, hl2, hlen, hf⟩ := DataW.trod_struct Tryz.underlying50 hy
  have h0 := hf 0 _ rfl
  have h1 := hf 1 _ rfl
  have h2 := hf 2 _ rfl
  have h3 := hf 3 _ rfl
  match xs, hlen with
  | [y0, y1, y2, y3], _ =>
    match cs, hl with
    | [u, v, z, q], _ =>
      simp only [List.getElem?_cons_zero, List.getElem?_cons_succ] at h0 h1 h2 h3
      change DataW.trod enc Tryz.prog W base spare held m 3 (([u, v, z, q].drop 0).take (Tryz.prog.cellsOf 3)) = some y0 at h0
      change DataW.trod enc Tryz.prog W base spare held m 9 (([u, v, z, q].drop 1).take (Tryz.prog.cellsOf 9)) = some y1 at h1
      change DataW.trod enc Tryz.prog W base spare held m 9 (([u, v, z, q].drop 2).take (Tryz.prog.cellsOf 9)) = some y2 at h2
      change DataW.trod enc Tryz.prog W base spare held m 9 (([u, v, z, q].drop 3).take (Tryz.prog.cellsOf 9)) = some y3 at h3
      rw [cellsIntC] at h0
      rw [cellsS] at h1 h2 h3
      simp only [List.drop_zero, List.drop_succ_cons, List.take_succ_cons, List.take_zero] at h0 h1 h2 h3
      obtain ⟨k, e0, z0, hk⟩ := DataW.trod_int Tryz.underlying3 h0
      obtain ⟨s, e1, z1, hs⟩ := DataW.trod_string Tryz.underlying9 h1
      obtain ⟨t, e2, z2, ht⟩ := DataW.trod_string Tryz.underlying9 h2
      obtain ⟨r, e3, z3, hr⟩ := DataW.trod_string Tryz.underlying9 h3
      simp only [List.cons.injEq, and_true] at e0 e1 e2 e3
      subst e0 e1 e2 e3
      have hkb := bounds_i64 hk
      refine ⟨k, s, t, r, ⟨?_, ?_, ?_, ?_⟩, by rw [z0, z1, z2, z3]; rfl, by have := hkb.1; have := hkb.2; omega⟩
      · have := hc 0 (by omega)
        simpa [Addr.add] using this
      · have := hc 1 (by omega)
        simpa using this
      · have := hc 2 (by omega)
        simpa using this
      · have := hc 3 (by omega)
        simpa using this
theorem weightsAll_memC {H : Type} {P : Program} {e : TypeId} : ∀ {ds : List (DataW H)} {d : DataW H}, d ∈ ds → ∀ n ∈ d.weights P e, n ∈ DataW.weightsAll P e ds
  | d0 :: ds, d, hd, n, hn => by
    simp only [DataW.weightsAll, List.mem_append]
    rcases List.mem_cons.1 hd with rfl | h
    · exact .inl hn
    · exact .inr (weightsAll_memC h n hn)
  | [], _, hd, _, _ => by simp at hd
set_option maxRecDepth 100000 in
theorem chg_weights {H : Type} {k : Int} {s t r : List UInt8} : ∀ n, n = s.length ∨ n = t.length ∨ n = r.length → n ∈ (DataW.agg [.lit (.int .i64 k), .lit (.string s), .lit (.string t), .lit (.string r)] : DataW H).weights Tryz.prog 50 := by
  intro n hn
  simp only [DataW.weights, Tryz.underlying50, DataW.weightsEach, Array.toList, List.map_cons, List.map_nil]
  rcases hn with rfl | rfl | rfl <;> simp
set_option maxRecDepth 100000 in
/-- An argument that is a slice of changes. -/
theorem chgs_open {H : Type} {enc : TypeId × Value → H} {W : World} {b0 : Nat} {r : Reach} {v : Value} {d : DataW H} {ps : List MemPlace}
    (hval : Value.okWide Tryz.prog W r b0 33 v) (hd : DataW.Trod enc Tryz.prog W 0 (fun _ => true) true 33 v d ps)
    (hz : ∀ n ∈ d.weights Tryz.prog 33, n ≤ reachBytes) : ∃ ks, Cw W v ks := by
  obtain ⟨a0, l0, c0, rfl⟩ := Go.WideShapes.okWide_slice (P := Tryz.prog) (e := 50) Tryz.underlying33 hval
  obtain ⟨fuel, hf⟩ := hd
  rcases DataW.trod_slice Tryz.underlying33 hf with ⟨e, -⟩ | ⟨a, len, cap, elems, rest, m, -, e, hy0, -, hl, hm, hel, hc, -, -⟩
  · simp only [Value.cells, List.cons.injEq, Value.slice.injEq, and_true] at e
    obtain ⟨rfl, rfl, rfl⟩ := e
    exact ⟨[], Cw.nil W⟩
  · simp only [Value.cells, List.cons.injEq, Value.slice.injEq, and_true] at e
    obtain ⟨rfl, rfl, rfl⟩ := e
    rw [cellsChg] at hc
    have hsz : ∀ (k : Nat) (y : DataW H × List MemPlace) (q : Int) (s t r : ByteArray), elems[k]? = some y → y.1 = .agg [.lit (.int .i64 q), .lit (.string s.data.toList), .lit (.string t.data.toList), .lit (.string r.data.toList)] → s.size ≤ 140737488355328 ∧ t.size ≤ 140737488355328 ∧ r.size ≤ 140737488355328 := by
      intro k y q s t r hk he
      have h2 : reachBytes ≤ 140737488355328 := by decide
      have hw : ∀ n, n = s.data.toList.length ∨ n = t.data.toList.length ∨ n = r.data.toList.length → n ≤ reachBytes := by
        intro n hn
        refine hz n ?_
        have e1 := (Prod.ext_iff.1 hy0).1
        simp only at e1
        rw [e1]
        simp only [DataW.weights, Tryz.underlying33]
        refine List.mem_cons_of_mem _ (List.mem_append_left _ (weightsAll_memC (d := y.1) (List.mem_map.2 ⟨y, List.mem_of_getElem? hk, rfl⟩) _ ?_))
        rw [he]
        exact chg_weights n hn
      exact ⟨Nat.le_trans (hw _ (.inl rfl)) h2, Nat.le_trans (hw _ (.inr (.inl rfl))) h2, Nat.le_trans (hw _ (.inr (.inr rfl))) h2⟩
    have hex : ∀ k, k ≤ l0 → ∃ ks : List Ch, ks.length = k ∧ (∀ x ∈ ks, ChOk x) ∧ ∀ (j : Nat) (x : Ch), ks[j]? = some x → W.cell? (a.add (j * 4)) = some (.int .i64 x.1) ∧ W.cell? ((a.add (j * 4)).add 1) = some (.string (st x.2.1)) ∧ W.cell? ((a.add (j * 4)).add 2) = some (.string (st x.2.2.1)) ∧ W.cell? ((a.add (j * 4)).add 3) = some (.string (st x.2.2.2)) := by
      intro k
      induction k with
      | zero => exact fun _ => ⟨[], rfl, fun f h => by simp at h, fun j f h => by simp at h⟩
      | succ k ih =>
        intro hk
        obtain ⟨ks, h1, h2, h3⟩ := ih (by omega)
        have hck := hc k (by omega)
        obtain ⟨y, hy⟩ : ∃ y, elems[k]? = some y := ⟨_, List.getElem?_eq_getElem (by omega)⟩
        rw [hy] at hck
        obtain ⟨q, s, t, r, ⟨c0, c1, c2, c3⟩, hyv, hq⟩ := chg_cells hck
        obtain ⟨hs, ht, hr⟩ := hsz k y q s t r hy hyv
        refine ⟨ks ++ [(q, bs s, bs t, bs r)], by simp [h1], fun f hf => ?_, fun j f hf => ?_⟩
        · rcases List.mem_append.1 hf with hf | hf
          · exact h2 f hf
          · obtain rfl : f = (q, bs s, bs t, bs r) := by simpa using hf
            exact ⟨hq, ⟨bs_lt s, bs_lt t, bs_lt r⟩, by rw [bs_len]; exact hs, by rw [bs_len]; exact ht, by rw [bs_len]; exact hr⟩
        · by_cases hj : j < ks.length
          · rw [List.getElem?_append_left hj] at hf
            exact h3 j f hf
          · have hj' : j = k := by
              have := (List.getElem?_eq_some_iff.1 hf).1
              simp at this
              omega
            subst hj'
            rw [List.getElem?_append_right (by omega), h1] at hf
            obtain rfl : f = (q, bs s, bs t, bs r) := by simpa using hf.symm
            rw [st_bs, st_bs, st_bs]
            exact ⟨c0, c1, c2, c3⟩
    obtain ⟨ks, h1, h2, h3⟩ := hex l0 (Nat.le_refl _)
    refine ⟨ks, ⟨some a, c0, by rw [h1], by omega, hm, ?_, fun h => nomatch h⟩, h2⟩
    by_cases h0 : l0 = 0
    · exact .inl (List.length_eq_zero_iff.1 (by omega))
    · obtain ⟨b, off, sp⟩ := a
      obtain ⟨f, hf⟩ : ∃ f, ks[0]? = some f := ⟨_, List.getElem?_eq_getElem (by omega)⟩
      have hsp : sp = none := by
        have := (h3 0 f hf).1
        simp only [Nat.zero_mul, Addr.add, if_true] at this
        exact spot_none this
      subst hsp
      refine .inr ⟨b, off, rfl, fun j f hf => ?_⟩
      have := h3 j f hf
      rw [Addr_add, Addr_add, Addr_add, Addr_add] at this
      exact this
end By
end Go.Proofs.YtfobogcccbddbaaGreatDoor
