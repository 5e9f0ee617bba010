/- A store that is handed reads as texts. No condition. -/
import Derived.Test.YtlfoikjbbbhbdaaCtM
import Derived.Test.YtlfoikjbbbhbdaaWRow
namespace Go.Proofs.Ytlfoikjbbbhbdaa
namespace By
open Go.RowKit Go.ChangeShapes Go.WideShapes WireN CtN
set_option linter.unusedVariables false
set_option linter.unusedSimpArgs false

theorem cellsTx : Try.prog.cellsOf 9 = 1 := by kernel_rfl
theorem cellsTxs : Try.prog.cellsOf 23 = 1 := by kernel_rfl
theorem spot_nonec {w : World} {b off : Nat} {sp : Option Nat} {v : Value} (h : w.cell? ⟨b, off, sp⟩ = some v) : sp = none := by
  unfold World.cell? at h
  split at h
  · cases sp with
    | none => rfl
    | some s => simp at h
  · simp at h
set_option maxRecDepth 100000 in
/-- A text's cell. -/
theorem text_cell {H : Type} {enc : TypeId × Value → H} {W : World} {base : Nat} {spare : Nat → Bool} {held : Bool} {n : Nat} {a : Addr} {y : DataW H × List MemPlace}
    (h : (W.cells? base a 1).bind (DataW.trod enc Try.prog W base spare held n 9) = some y) : ∃ s : ByteArray, W.cell? a = some (.string s) ∧ y.1 = .lit (.string s.data.toList) := by
  obtain ⟨cs, hcs, hy⟩ := Option.bind_eq_some_iff.1 h
  obtain ⟨hb, hl, hc⟩ := World.cells?_some hcs
  match cs, hl with
  | [u], _ =>
    obtain ⟨s, e1, e2, hs⟩ := DataW.trod_string Try.underlying9 hy
    simp only [List.cons.injEq, and_true] at e1
    subst e1
    refine ⟨s, ?_, by rw [e2]⟩
    have := hc 0 (by omega)
    simpa [Addr.add] using this
theorem weightsAll_mem {H : Type} {P : Program} {e : TypeId} : ∀ {ds : List (DataW H)} {d : DataW H}, d ∈ ds → ∀ n ∈ d.weights P e, n ∈ DataW.weightsAll P e ds
  | d0 :: ds, d, hd, n, hn => by
    simp only [DataW.weightsAll, List.mem_append]
    rcases List.mem_cons.1 hd with rfl | h
    · exact .inl hn
    · exact .inr (weightsAll_mem h n hn)
  | [], _, hd, _, _ => by simp at hd
set_option maxRecDepth 100000 in
/-- An argument that is a store. -/
theorem store_open {H : Type} {enc : TypeId × Value → H} {W : World} {b0 : Nat} {r : Reach} {v : Value} {d : DataW H} {ps : List MemPlace}
    (hval : Value.okWide Try.prog W r b0 25 v) (hd : DataW.Trod enc Try.prog W 0 (fun _ => true) true 25 v d ps)
    (hz : ∀ n ∈ d.weights Try.prog 25, n ≤ reachBytes) : ∃ u ts, v = .agg #[u] ∧ Tw W u ts ∧ ts.length ≤ 10000000000000 := by
  obtain ⟨cs, rfl, hsz⟩ := Go.WideShapes.okWide_struct (P := Try.prog) Try.underlying25 hval
  obtain ⟨fuel, hf⟩ := hd
  obtain ⟨y0, n, hx, hlen, h0⟩ := trod_struct1 Try.underlying25 hf
  have hcs : Try.prog.cellsOf 25 = 1 := by kernel_rfl
  rw [hcs] at hsz
  obtain ⟨u, rfl⟩ : ∃ u, cs = #[u] := by
    match cs, hsz with
    | ⟨[u]⟩, _ => exact ⟨u, rfl⟩
  rw [cellsTxs] at h0
  simp only [Value.cells, List.drop_zero, List.take_succ_cons, List.take_zero] at h0
  rcases DataW.trod_slice Try.underlying23 h0 with ⟨e, -⟩ | ⟨a, len, cap, elems, rest, m, -, e, hy0, -, hl, hm, hel, hc, -, -⟩
  · simp only [List.cons.injEq, and_true] at e
    subst e
    exact ⟨_, [], rfl, Tw.nil W, by simp⟩
  · simp only [List.cons.injEq, and_true] at e
    subst e
    rw [cellsTx] at hc
    have hsz : ∀ (k : Nat) y (s : ByteArray), elems[k]? = some y → y.1 = .lit (.string s.data.toList) → s.size ≤ 140737488355328 := by
      intro k y s hk he
      have h1 := hz s.size (by
        have e1 : d = .agg [y0.1] := (Prod.ext_iff.1 hx).1
        rw [e1, hy0]
        simp only [DataW.weights, Try.underlying25, DataW.weightsEach, Array.toList, List.map_cons, List.map_nil, Try.underlying23, List.append_nil]
        refine List.mem_cons_of_mem _ (List.mem_append_left _ (weightsAll_mem (d := y.1) (List.mem_map.2 ⟨y, List.mem_of_getElem? hk, rfl⟩) _ ?_))
        rw [he]
        simp [DataW.weights])
      have h2 : reachBytes ≤ 140737488355328 := by decide
      omega
    have hbyt : Try.prog.bytesOf 9 = 16 := by kernel_rfl
    have hln : len ≤ 10000000000000 := by
      have h1 := hz ((elems.length + rest.length) * 16) (by
        have e1 : d = .agg [y0.1] := (Prod.ext_iff.1 hx).1
        rw [e1, hy0]
        simp only [DataW.weights, Try.underlying25, DataW.weightsEach, Array.toList, List.map_cons, List.map_nil, Try.underlying23, List.append_nil, hbyt, List.length_map]
        exact List.mem_cons_self)
      have h2 : reachBytes ≤ 140737488355328 := by decide
      omega
    have hex : ∀ k, k ≤ len → ∃ ts : List Tx, ts.length = k ∧ (∀ x ∈ ts, TxOk x) ∧ ∀ (j : Nat) (x : Tx), ts[j]? = some x → W.cell? (a.add (j * 1)) = some (.string (st x)) := by
      intro k
      induction k with
      | zero => exact fun _ => ⟨[], rfl, fun f h => by simp at h, fun j f h => by simp at h⟩
      | succ k ih =>
        intro hk
        obtain ⟨ts, h1, h2, h3⟩ := ih (by omega)
        have h4 := hc k (by omega)
        obtain ⟨y, hy⟩ : ∃ y, elems[k]? = some y := ⟨_, List.getElem?_eq_getElem (by omega)⟩
        rw [hy] at h4
        obtain ⟨s, c0, hs⟩ := text_cell h4
        refine ⟨ts ++ [bs s], by simp [h1], fun f hf => ?_, fun j f hf => ?_⟩
        · rcases List.mem_append.1 hf with hf | hf
          · exact h2 f hf
          · obtain rfl : f = bs s := by simpa using hf
            exact ⟨bs_lt s, by rw [bs_len]; exact hsz k y s hy hs⟩
        · by_cases hj : j < ts.length
          · rw [List.getElem?_append_left hj] at hf
            exact h3 j f hf
          · have hj' : j = k := by
              have := (List.getElem?_eq_some_iff.1 hf).1
              simp at this
              omega
            subst hj'
            rw [List.getElem?_append_right (by omega), h1] at hf
            obtain rfl : f = bs s := by simpa using hf.symm
            rw [st_bs]
            exact c0
    obtain ⟨ts, h1, h2, h3⟩ := hex len (Nat.le_refl _)
    refine ⟨_, ts, rfl, ⟨⟨some a, cap, by rw [h1], by omega, hm, ?_, fun h => nomatch h⟩, h2⟩, by omega⟩
    by_cases h0 : len = 0
    · exact .inl (List.length_eq_zero_iff.1 (by omega))
    · obtain ⟨b, off, sp⟩ := a
      obtain ⟨f, hf⟩ : ∃ f, ts[0]? = some f := ⟨_, List.getElem?_eq_getElem (by omega)⟩
      have hsp : sp = none := by
        have := h3 0 f hf
        simp only [Nat.zero_mul, Addr.add, if_true] at this
        exact spot_nonec this
      subst hsp
      refine .inr ⟨b, off, rfl, fun j f hf => ?_⟩
      have := h3 j f hf
      rw [Nat.mul_one] at this
      rwa [Addr_add] at this
end By
end Go.Proofs.Ytlfoikjbbbhbdaa
