/- What the law of kept numbers needs of plain mathematics: Get of Put, the numbers of Merge, what Keep answers of them, and that the bytes of a store are read as what they were. -/
import Derived.Test.YtlfoikjbbbhbdaaCtX
namespace Go.Proofs.Ytlfoikjbbbhbdaa
namespace By
open Go.RowKit WireN CtN
set_option linter.unusedVariables false
set_option linter.unusedSimpArgs false

theorem chain_enc : ∀ (ts : List Tx) (pre : List Nat), (∀ x ∈ ts, x.length ≤ 2097152) → Chain (pre ++ encT ts) pre.length (ts.map fun t => (3, t)) (pre ++ encT ts).length
  | [], pre, _ => by
    show pre.length = _
    simp [encT]
  | t :: ts, pre, h => by
    have hb := nx_back pre (encT ts) (k := 3) (p := t) (by decide) (h t List.mem_cons_self)
    have e : pre ++ encT (t :: ts) = pre ++ (fr 3 t ++ encT ts) := by simp [encT]
    have e2 : pre ++ encT (t :: ts) = (pre ++ fr 3 t) ++ encT ts := by rw [e, List.append_assoc]
    have ih := chain_enc ts (pre ++ fr 3 t) (fun x hx => h x (List.mem_cons_of_mem _ hx))
    refine ⟨?_, ?_, ?_, ?_⟩
    · rw [e, List.length_append, List.length_append]
      have := fr_len 3 t
      omega
    · rw [e, hb]
    · rw [e, hb]
    · rw [e, hb, ← e, e2]
      simp only
      rw [List.length_append] at ih
      exact ih
/-- The bytes of a store are read as the store. -/
theorem dec_enc {ts : List Tx} (h : ∀ x ∈ ts, x.length ≤ 2097152) (he : err ts = 0) {fs : List (Nat × List Nat)} {q E : Nat} (hc : Chain (encT ts) 0 fs q) (hs : Stops (encT ts) q E) : dcE fs E = 0 ∧ dcL fs E = ts := by
  have h1 := chain_enc ts [] h
  rw [List.nil_append] at h1
  have h2 : Stops (encT ts) (encT ts).length 0 := .inl ⟨Nat.le_refl _, rfl⟩
  obtain ⟨rfl, -, rfl⟩ := Chain.unique hc hs h1 h2
  have hm : (ts.map fun t => ((3 : Nat), t)).map (fun f => f.2) = ts := by rw [List.map_map]; exact List.map_id _
  have hd : dcE (ts.map fun t => ((3 : Nat), t)) 0 = 0 := by
    rw [dcE, if_neg (by simp), if_pos (by intro f hf; obtain ⟨t, -, rfl⟩ := List.mem_map.1 hf; rfl), hm, he]
  exact ⟨hd, by rw [dcL_ok hd, hm]⟩
/-- Get of Put. -/
theorem put_get {a : List Tx} {x : Tx} (he : err a = 0) (hl : a.length ≤ 4000) : ptE x a = 0 ∧ ptL x a = add a x ∧ ptN x a = fnd x (add a x) ∧ gtE (fnd x (add a x) : Nat) (add a x) = 0 ∧ gtT (fnd x (add a x) : Nat) (add a x) = x := by
  have h1 : ptE x a = 0 := ptE_new he (by omega)
  have h2 := ptL_ok h1
  have h3 := add_len a x
  have h4 : err (add a x) = 0 := err_ok.2 ⟨by omega, add_nodup (err_ok.1 he).2⟩
  have h5 := fnd_lt (add_mem a x)
  have h6 : gtE (fnd x (add a x) : Nat) (add a x) = 0 := gtE_in h4 ⟨by omega, by omega⟩
  refine ⟨h1, h2.1, h2.2, h6, ?_⟩
  rw [gtT_ok h6, Int.toNat_natCast, fnd_at (add_mem a x)]
  rfl
/-- The numbers of Merge. -/
theorem mrg_facts {a b : List Tx} (ha : err a = 0) (hb : err b = 0) (hl : a.length ≤ 8) (hl2 : b.length ≤ 8) :
    mgE a b = 0 ∧ mgL a b = (mrg a b).1 ∧ mgN a b = (mrg a b).2.map (fun (k : Nat) => (k : Int)) ∧ err (mrg a b).1 = 0 ∧ (mrg a b).1.length ≤ 16 ∧ (mgN a b).length = b.length ∧
    ∀ (i : Nat) (k : Int), (mgN a b)[i]? = some k → gtE k (mrg a b).1 = 0 ∧ b[i]? = some (gtT k (mrg a b).1) ∧ 0 ≤ k ∧ k < (mrg a b).1.length := by
  have h0 := mrg_len b a
  have h1 : mgE a b = 0 := by rw [mgE, if_neg (by simp [ha]), if_neg (by simp [hb]), if_neg (by omega)]
  have h2 := mgL_ok h1
  have h3 : err (mrg a b).1 = 0 := err_ok.2 ⟨by omega, mrg_nodup b a (err_ok.1 ha).2⟩
  refine ⟨h1, h2.1, h2.2, h3, by omega, by rw [h2.2, List.length_map]; exact h0.1, fun i k hk => ?_⟩
  rw [h2.2, List.getElem?_map, Option.map_eq_some_iff] at hk
  obtain ⟨j, hj, rfl⟩ := hk
  obtain ⟨y, hy1, hy2⟩ := mrg_get b a hj
  have hlt : j < (mrg a b).1.length := (List.getElem?_eq_some_iff.1 hy2).1
  have h6 : gtE (j : Nat) (mrg a b).1 = 0 := gtE_in h3 ⟨by omega, by omega⟩
  refine ⟨h6, ?_, by omega, by omega⟩
  rw [gtT_ok h6, Int.toNat_natCast, hy2, hy1]
  rfl
/-- What Keep answers of them. -/
theorem keep_facts {s : List Tx} {u : List Int} (he : err s = 0) (hu : ∀ x ∈ u, 0 ≤ x ∧ x < s.length) :
    kpE s u = 0 ∧ kpL s u = (kps u s 0 0).1 ∧ kpN s u = (kps u s 0 0).2 ∧ (kpN s u).length = s.length ∧
    ∀ (i : Nat) (x : Int), (kpN s u)[i]? = some x → (∃ k : Nat, x = (k : Int) ∧ k < (kpL s u).length ∧ ∃ t, s[i]? = some t ∧ (kpL s u)[k]? = some t) ∨ (x = -1 ∧ (i : Int) ∉ u) := by
  have h1 : kpE s u = 0 := by rw [kpE, if_neg (by simp [he]), kerr, if_pos hu]
  have h2 := kpL_ok h1
  refine ⟨h1, h2.1, h2.2, by rw [h2.2]; exact (kps_len u s 0 0).1, fun i x hx => ?_⟩
  rw [h2.2] at hx
  rw [h2.1]
  rcases kps_get u s 0 0 i x hx with ⟨h3, k, h4, t, h5, h6⟩ | ⟨h3, h4⟩
  · exact .inl ⟨k, by rw [h4, Nat.zero_add], (List.getElem?_eq_some_iff.1 h6).1, t, h5, h6⟩
  · exact .inr ⟨h4, by rw [Nat.zero_add] at h3; exact h3⟩
def MergeC : Prop := ∀ {w : World} {va vb : Value} {a b : List Tx}, Tw w va a → Tw w vb b → Calls Try.prog 22 #[.agg #[va], .agg #[vb]] w (MergeR a b w)
def KeepC : Prop := ∀ {w : World} {v vu : Value} {s : List Tx} {us : List Int}, Tw w v s → Jw w vu us → us.length ≤ 1000000 → Calls Try.prog 19 #[.agg #[v], vu] w (KeepR s us w)
end By
end Go.Proofs.Ytlfoikjbbbhbdaa
