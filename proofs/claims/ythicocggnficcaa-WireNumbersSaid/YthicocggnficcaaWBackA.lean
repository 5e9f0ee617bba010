/- What the law on reading back keeps in memory: a tape, bytes, numbers and strings of its own; and what is read of numbers, signed numbers and strings that were written one after the other. No condition. -/
import Derived.Test.YthicocggnficcaaWTape
namespace Go.Proofs.Ythicocggnficcaa
namespace By
open Go.RowKit WireN
set_option linter.unusedVariables false
set_option linter.unusedSimpArgs false

/-- A row of values of the call's own. -/
def OwV (w wr : World) (t : TypeId) (v : Value) (vs : List Value) : Prop := wr.ownsRow w.heap.size t 1 v vs.length vs
theorem OwV.start (w wr : World) (t : TypeId) : OwV w wr t (.slice none 0 0) [] := World.ownsRow_nil _ _ _ _
theorem OwV.form {w wr : World} {t : TypeId} {v : Value} {vs : List Value} (h : OwV w wr t v vs) : ∃ ao cap, v = .slice ao vs.length cap ∧ vs.length ≤ cap ∧ cap ≤ maxLen := by
  rcases h.2 with ⟨rfl, h0⟩ | ⟨g, cap, cur, rfl, hb, hg, hnc, hcm, hsz, htake⟩
  · exact ⟨none, 0, by rw [h0], by omega, Nat.zero_le _⟩
  · exact ⟨_, cap, rfl, hnc, hcm⟩
theorem OwV.kept {w wr w1 : World} {t : TypeId} {v : Value} {vs : List Value} {row : Option Nat} (h : OwV w wr t v vs) (hg : wr.grownBy w1 row) (hne : ∀ g, v.ownBlock = some g → row ≠ some g) : OwV w w1 t v vs := by
  refine World.ownsRow.kept h hg ?_
  rcases h.2 with ⟨rfl, _⟩ | ⟨g', cap', cur, rfl, hb', _⟩
  · exact .inl rfl
  · right; intro e; exact hne g' rfl e.symm
theorem OwV.keep {w wr w1 : World} {t : TypeId} {v : Value} {vs : List Value} (h : OwV w wr t v vs) (hk : Kp wr w1) : OwV w w1 t v vs :=
  h.kept (row := none) ⟨hk.os, hk.tape, hk.output, hk.size, fun i hi _ => hk.block i hi⟩ (fun _ _ e => by simp at e)
theorem OwV.ne {w wr : World} {t t' : TypeId} {v v' : Value} {vs vs' : List Value} (h : OwV w wr t v vs) (h' : OwV w wr t' v' vs') (hne : t ≠ t') : ∀ g, v.ownBlock = some g → v'.ownBlock ≠ some g := by
  intro g hv hv'
  rcases h.2 with ⟨rfl, _⟩ | ⟨g1, cap1, cur1, rfl, _, hg1, _⟩
  · simp [Value.ownBlock] at hv
  · rcases h'.2 with ⟨rfl, _⟩ | ⟨g2, cap2, cur2, rfl, _, hg2, _⟩
    · simp [Value.ownBlock] at hv'
    · simp [Value.ownBlock] at hv hv'
      subst hv hv'
      rw [hg1] at hg2
      simp at hg2
      exact hne hg2.2
theorem OwV.nb {w wr : World} {t t' : TypeId} {v : Value} {vs : List Value} {g : Nat} {cs : Array Value} (h : OwV w wr t v vs) (h' : Blk wr g t' cs) (hne : t ≠ t') : v.ownBlock ≠ some g := by
  intro hv
  rcases h.2 with ⟨rfl, _⟩ | ⟨g1, cap1, cur1, rfl, _, hg1, _⟩
  · simp [Value.ownBlock] at hv
  · simp [Value.ownBlock] at hv
    subst hv
    unfold Blk at h'
    rw [hg1] at h'
    simp at h'
    exact hne h'.2
theorem OwV.cell {w wr : World} {t : TypeId} {ao : Option Addr} {n cap : Nat} {vs : List Value} (h : OwV w wr t (.slice ao n cap) vs) (hn : 0 < n) : ∃ g, ao = some ⟨g, 0, none⟩ ∧ ∀ i v, vs[i]? = some v → wr.cell? ⟨g, i, none⟩ = some v := by
  rcases h.2 with ⟨h0, h1⟩ | ⟨g1, cap1, cur1, h0, _, hg1, hnc, hcm, hsz, htake⟩
  · simp at h0; omega
  · simp at h0
    obtain ⟨rfl, rfl, rfl⟩ := h0
    refine ⟨g1, rfl, fun i v hi => ?_⟩
    have hil : i < vs.length := (List.getElem?_eq_some_iff.1 hi).1
    rw [cell_of_row wr g1 i cur1 t (0, 0) hg1, ← Array.getElem?_toList]
    rw [Nat.mul_one] at htake
    rw [← htake, List.getElem?_take, if_pos hil] at hi
    exact hi
theorem Own.ov {w wr : World} {v : Value} {zs : List Nat} (h : Own w wr v zs) : OwV w wr 5 v (U zs) := by
  have := h.owns
  unfold OwV
  rw [U_length]
  exact this
theorem Own.of {w wr : World} {v : Value} {zs : List Nat} (h : OwV w wr 5 v (U zs)) (hl : Lt zs) (hk : Kp w wr) : Own w wr v zs := by
  unfold OwV at h
  rw [U_length] at h
  exact ⟨h, hl, hk⟩

/-- What the law keeps. -/
structure WB (w wy : World) (g at' : Nat) (vo vn vt : Value) (zs us : List Nat) (ss : List ByteArray) : Prop where
  tp : Tp w wy g at'
  out : Own w wy vo zs
  nums : OwV w wy 23 vn (us.map fun (u : Nat) => Value.int .u64 (u : Int))
  txts : OwV w wy 9 vt (ss.map Value.string)
section
variable {w wy w1 : World} {g at' : Nat} {vo vn vt : Value} {zs us : List Nat} {ss : List ByteArray}
theorem WB.kp (h : WB w wy g at' vo vn vt zs us ss) : Kp w wy := h.tp.kp
theorem WB.keep (h : WB w wy g at' vo vn vt zs us ss) (hk : Kp wy w1) : WB w w1 g at' vo vn vt zs us ss := ⟨h.tp.keep hk, h.out.keep hk, h.nums.keep hk, h.txts.keep hk⟩
theorem WB.tape (h : WB w wy g at' vo vn vt zs us ss) {a : Nat} (ht : Tp w w1 g a) (hg : Gr g wy w1) : WB w w1 g a vo vn vt zs us ss := by
  obtain ⟨_, _, _, _, _, hb⟩ := h.tp.ex
  exact ⟨ht, Own.of (h.out.ov.kept hg (fun r hr e => h.out.ov.nb hb (by decide) (by rw [hr, e]))) h.out.lt ht.kp, h.nums.kept hg (fun r hr e => h.nums.nb hb (by decide) (by rw [hr, e])), h.txts.kept hg (fun r hr e => h.txts.nb hb (by decide) (by rw [hr, e]))⟩
theorem WB.num (h : WB w wy g at' vo vn vt zs us ss) {vn' : Value} {us' : List Nat} (ho : OwV w w1 23 vn' (us'.map fun (u : Nat) => Value.int .u64 (u : Int))) (hg : wy.grownBy w1 vn.ownBlock) : WB w w1 g at' vo vn' vt zs us' ss := by
  obtain ⟨_, _, _, _, _, hb⟩ := h.tp.ex
  have ht := h.tp.by hg (fun r hr => ⟨(h.nums.lt r hr).1, fun e => h.nums.nb hb (by decide) (by rw [hr, e])⟩)
  exact ⟨ht, Own.of (h.out.ov.kept hg (fun r hr e => h.out.ov.ne h.nums (by decide) r hr e)) h.out.lt ht.kp, ho, h.txts.kept hg (fun r hr e => h.txts.ne h.nums (by decide) r hr e)⟩
theorem WB.txt (h : WB w wy g at' vo vn vt zs us ss) {vt' : Value} {ss' : List ByteArray} (ho : OwV w w1 9 vt' (ss'.map Value.string)) (hg : wy.grownBy w1 vt.ownBlock) : WB w w1 g at' vo vn vt' zs us ss' := by
  obtain ⟨_, _, _, _, _, hb⟩ := h.tp.ex
  have ht := h.tp.by hg (fun r hr => ⟨(h.txts.lt r hr).1, fun e => h.txts.nb hb (by decide) (by rw [hr, e])⟩)
  exact ⟨ht, Own.of (h.out.ov.kept hg (fun r hr e => h.out.ov.ne h.txts (by decide) r hr e)) h.out.lt ht.kp, h.nums.kept hg (fun r hr e => h.nums.ne h.txts (by decide) r hr e), ho⟩
theorem WB.set (h : WB w wy g at' vo vn vt zs us ss) {vo' : Value} {zs' : List Nat} {wb : World} (hk : Kp wy w1) (ho : Own wb w1 vo' zs') (hb : Kp w wb) : WB w w1 g at' vo' vn vt zs' us ss :=
  ⟨h.tp.keep hk, ho.base hb, h.nums.keep hk, h.txts.keep hk⟩
end

/-- What int(u) is. -/
def iu (u : Nat) : Int := wrap64 (u : Int)
theorem iu_bd (u : Nat) : -9223372036854775808 ≤ iu u ∧ iu u ≤ 9223372036854775807 := by unfold iu wrap64; omega
/-- The bytes of a number, its signed number and a string. -/
def ent (x : Nat × ByteArray) : List Nat := uv x.1 ++ (uv (fo (iu x.1)) ++ (uv x.2.size ++ bs x.2))
def enc (l : List (Nat × ByteArray)) : List Nat := (l.map ent).flatten
theorem enc_snoc (l : List (Nat × ByteArray)) (x : Nat × ByteArray) : enc (l ++ [x]) = enc l ++ ent x := by simp [enc]
theorem enc_split {l : List (Nat × ByteArray)} {k : Nat} (h : k < l.length) : enc l = enc (l.take k) ++ (ent l[k] ++ enc (l.drop (k + 1))) := by
  have e : l = l.take k ++ (l[k] :: l.drop (k + 1)) := by rw [← List.drop_eq_getElem_cons h, List.take_append_drop]
  have e2 : enc (l.take k ++ (l[k] :: l.drop (k + 1))) = enc (l.take k) ++ (ent l[k] ++ enc (l.drop (k + 1))) := by unfold enc; rw [List.map_append, List.flatten_append, List.map_cons, List.flatten_cons]
  rw [← e2, ← e]
theorem enc_len {l : List (Nat × ByteArray)} (h : ∀ x ∈ l, x.1 < 18446744073709551616 ∧ x.2.size < 20) : (enc l).length ≤ 50 * l.length := by
  induction l with
  | nil => simp [enc]
  | cons x l ih =>
    have h1 := h x (by simp)
    have h2 := ih (fun y hy => h y (by simp [hy]))
    have h3 := uv_ten h1.1
    have h4 := uv_ten (fo_lt (iu_bd x.1))
    have h5 := uv_ten (n := x.2.size) (by omega)
    have e : enc (x :: l) = ent x ++ enc l := by simp [enc]
    rw [e, List.length_append, List.length_cons]
    simp only [ent, List.length_append, bs_len]
    omega
theorem Int_at {v : Value} {xs : List Nat} {w : World} (hs : Sl w v xs) (i : Int) (hi : -9223372036854775808 ≤ i ∧ i ≤ 9223372036854775807) {n p e : Nat} {k : Int} (h : rd xs i = (n, p, e)) (hk : unfo n = k) :
    Calls Try.prog 17 #[v, .int .i64 i] w fun r w' => r = .returned (.tuple #[.int .i64 k, .int .i64 (p : Nat), .int .i64 (e : Nat)]) ∧ w = w' := by
  have := Int_any hs i hi
  unfold rdIV at this
  rw [h] at this
  rw [← hk]
  exact this
theorem Text_at {v : Value} {xs : List Nat} {w : World} (hs : Sl w v xs) (i : Int) (hi : -9223372036854775808 ≤ i ∧ i ≤ 9223372036854775807) (most : Int) (hm : -9223372036854775808 ≤ most ∧ most ≤ 9223372036854775807) {b : List Nat} {p e : Nat} {s : ByteArray} (h : rdT xs i most = (b, p, e)) (hk : st b = s) :
    Calls Try.prog 19 #[v, .int .i64 i, .int .i64 most] w fun r w' => r = .returned (.tuple #[.string s, .int .i64 (p : Nat), .int .i64 (e : Nat)]) ∧ w = w' := by
  have := Text_any hs i hi most hm
  unfold rdTV at this
  rw [h] at this
  rw [← hk]
  exact this
/-- What is read of the k-th. -/
theorem enc_read {l : List (Nat × ByteArray)} (h : ∀ x ∈ l, x.1 < 18446744073709551616 ∧ x.2.size < 20) {k : Nat} (hk : k < l.length) (u : Nat) (s : ByteArray) (hx : l[k] = (u, s)) :
    ∃ p1 p2 : Nat, rd (enc l) ((enc (l.take k)).length : Nat) = (u, p1, 0) ∧ rd (enc l) (p1 : Nat) = (fo (iu u), p2, 0) ∧ rdT (enc l) (p2 : Nat) 20 = (bs s, (enc (l.take (k + 1))).length, 0) ∧ p1 ≤ (enc l).length ∧ p2 ≤ (enc l).length := by
  have hm := h _ (List.getElem_mem hk)
  rw [hx] at hm
  simp only at hm
  have hs := enc_split hk
  rw [hx] at hs
  obtain ⟨A, hA⟩ : ∃ A, A = enc (l.take k) := ⟨_, rfl⟩
  obtain ⟨B, hB⟩ : ∃ B, B = enc (l.drop (k + 1)) := ⟨_, rfl⟩
  have ht : enc (l.take (k + 1)) = A ++ ent (u, s) := by rw [List.take_succ_eq_append_getElem hk, enc_snoc, hx, hA]
  rw [← hA, ← hB] at hs
  rw [hs, ht, ← hA]
  have e1 : A ++ (ent (u, s) ++ B) = A ++ (uv u ++ (uv (fo (iu u)) ++ (uv s.size ++ (bs s ++ B)))) := by simp [ent]
  have e2 : A ++ (ent (u, s) ++ B) = (A ++ uv u) ++ (uv (fo (iu u)) ++ (uv s.size ++ (bs s ++ B))) := by simp [ent]
  have e3 : A ++ (ent (u, s) ++ B) = (A ++ (uv u ++ uv (fo (iu u)))) ++ (uv (bs s).length ++ (bs s ++ B)) := by rw [bs_len]; simp [ent]
  refine ⟨(A ++ uv u).length, (A ++ (uv u ++ uv (fo (iu u)))).length, ?_, ?_, ?_, ?_, ?_⟩
  · rw [e1, rd_back A _ hm.1, List.length_append]
  · rw [e2, rd_back (A ++ uv u) _ (fo_lt (iu_bd u))]
    simp [List.length_append]; omega
  · rw [e3, rdT_back _ _ _ (by rw [bs_len]; omega) (by rw [bs_len]; omega)]
    simp [ent, bs_len]; omega
  · simp [ent]
  · simp [ent]
end By
end Go.Proofs.Ythicocggnficcaa
