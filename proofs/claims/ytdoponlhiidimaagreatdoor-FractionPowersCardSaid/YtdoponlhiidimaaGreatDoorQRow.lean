/- A row of fractions that the call owns, and a slice that reads as fractions. No condition. -/
import Derived.Test.YtdoponlhiidimaaGreatDoorDraws
import Derived.Test.YtdoponlhiidimaaGreatDoorFormat
import Derived.Maps.AppendAt
namespace Go.Proofs.YtdoponlhiidimaaGreatDoor
open Go.RowKit LimbN
set_option linter.unusedVariables false
set_option linter.unusedSimpArgs false

/-- A fraction of any digits, and the two values that hold it. -/
structure QItem where
  n : List Nat
  d : List Nat
  vn : Value
  vd : Value
def qcell (t : QItem) : List Value := [t.vn, t.vd]
def qcells : List QItem → List Value
  | [] => []
  | t :: ts => qcell t ++ qcells ts
theorem qcells_len : ∀ ts : List QItem, (qcells ts).length = ts.length * 2
  | [] => rfl
  | t :: ts => by
    have := qcells_len ts
    simp only [qcells, qcell, List.length_append, List.length_cons, List.length_nil, this]
    omega
theorem qcells_append : ∀ (a b : List QItem), qcells (a ++ b) = qcells a ++ qcells b
  | [], b => rfl
  | t :: ts, b => by simp [qcells, qcells_append ts b]
theorem qcells_at : ∀ (ts : List QItem) (i : Nat) (t : QItem), ts[i]? = some t → ∀ j, j < 2 → (qcells ts)[i * 2 + j]? = (qcell t)[j]?
  | [], i, t, h => by simp at h
  | u :: ts, 0, t, h => by
    intro j hj
    obtain rfl : u = t := by simpa using h
    simp only [qcells, Nat.zero_mul, Nat.zero_add]
    rw [List.getElem?_append_left (by simpa [qcell] using hj)]
  | u :: ts, i + 1, t, h => by
    intro j hj
    have := qcells_at ts i t (by simpa using h) j hj
    simp only [qcells]
    rw [List.getElem?_append_right (by simp [qcell]; omega), ← this]
    congr 1
    simp [qcell]; omega
/-- A row of fractions in memory that begins at B. -/
structure QRow (B : Nat) (W : World) (v : Value) (ts : List QItem) : Prop where
  own : W.ownsRow B 26 2 v ts.length (qcells ts)
  sl : ∀ t ∈ ts, (Sl W t.vn t.n ∧ Sl W t.vd t.d) ∧ ∀ g, v.ownBlock = some g → Off g t.vn t.n ∧ Off g t.vd t.d
  le : B ≤ W.heap.size
theorem QRow.start {B : Nat} {w : World} (h : B ≤ w.heap.size) : QRow B w (.slice none 0 0) [] := ⟨World.ownsRow_nil _ _ _ _, fun t ht => by simp at ht, h⟩
theorem QRow.keep {B : Nat} {W W' : World} {v : Value} {ts : List QItem} (h : QRow B W v ts) (hk : Kp W W') : QRow B W' v ts := by
  refine ⟨⟨h.own.1, ?_⟩, fun t ht => ⟨⟨(h.sl t ht).1.1.keep hk, (h.sl t ht).1.2.keep hk⟩, (h.sl t ht).2⟩, Nat.le_trans h.le hk.size⟩
  rcases h.own.2 with hn | ⟨g, cap, cur, e, hb, hg, r⟩
  · exact .inl hn
  · exact .inr ⟨g, cap, cur, e, hb, by rw [hk.block g (lt_of_block hg)]; exact hg, r⟩
theorem QRow.off {B : Nat} {W W' : World} {v : Value} {ts : List QItem} {b : Nat} (h : QRow B W v ts) (hg : Gr b W W') (hb : b < B) (hn : ∀ t ∈ ts, Off b t.vn t.n ∧ Off b t.vd t.d) : QRow B W' v ts := by
  refine ⟨⟨h.own.1, ?_⟩, fun t ht => ⟨⟨(h.sl t ht).1.1.gr hg (hn t ht).1, (h.sl t ht).1.2.gr hg (hn t ht).2⟩, (h.sl t ht).2⟩, Nat.le_trans h.le hg.size⟩
  rcases h.own.2 with hn | ⟨g, cap, cur, e, hb', hg', r⟩
  · exact .inl hn
  · exact .inr ⟨g, cap, cur, e, hb', (hg.block g (lt_of_block hg') (fun e => by injection e; omega)).trans hg', r⟩
theorem QRow.gr {B : Nat} {W W' : World} {v : Value} {ts : List QItem} {b : Nat} (h : QRow B W v ts) (hg : Gr b W W') (hb : b < B) (hn : ∀ t ∈ ts, New B t.vn ∧ New B t.vd) : QRow B W' v ts :=
  h.off hg hb fun t ht => ⟨(hn t ht).1.offs hb _, (hn t ht).2.offs hb _⟩
theorem QRow.form {B : Nat} {W : World} {v : Value} {ts : List QItem} (h : QRow B W v ts) : (∃ ao cap, v = .slice ao ts.length cap ∧ ts.length ≤ cap) ∧ ∀ g, v.ownBlock = some g → B ≤ g ∧ g < W.heap.size := by
  refine ⟨?_, fun g hg => h.own.lt g hg⟩
  rcases h.own.2 with ⟨rfl, h0⟩ | ⟨g, cap, cur, rfl, hb, hg, hnc, hcm, hsz, htake⟩
  · exact ⟨none, 0, by rw [h0], by omega⟩
  · exact ⟨_, cap, rfl, hnc⟩
theorem infoQ : (Tryz.prog.info? 26).map (fun i => (i.zero, i.size, i.bytes)) = some (some (.agg #[.slice none 0 0, .slice none 0 0]), 2, 48) := by kernel_rfl
/-- append of fractions. -/
theorem wpList_q {B : Nat} {wx : World} {ops : Array Oper} {rest : List Oper} {o : Oper} {a : Act} {Q : Exit → Act → World → Prop} (hgd : o.guard = none) (s x : Operand)
    (ho : o.op = .call { callee := .builtin .append, args := #[s, x], argTypes := #[35, 35] })
    (v : Value) (ts : List QItem) (hs : a.eval s = v) (hown : QRow B wx v ts) (us : List QItem) (g m c : Nat) (hm : us.length = m) (hx : a.eval x = .slice (some ⟨g, 0, none⟩) m c)
    (hc : ∀ j u, (qcells us)[j]? = some u → wx.cell? ⟨g, j, none⟩ = some u) (h1 : ∀ u ∈ qcells us, u.oneCell' = true) (hn : ts.length ≤ 100000) (hm2 : m ≤ 100000)
    (hsl : ∀ t ∈ us, (Sl wx t.vn t.n ∧ Sl wx t.vd t.d) ∧ ∀ g, v.ownBlock = some g → Off g t.vn t.n ∧ Off g t.vd t.d)
    (h : ∀ v' w', QRow B w' v' (ts ++ us) → wx.grownBy w' v.ownBlock → wpList Tryz.prog ops Q rest (a.put o.dst v') w') : wpList Tryz.prog ops Q (o :: rest) a wx := by
  obtain ⟨i, hi, hz, hsize, hby⟩ := info_parts infoQ
  subst hm
  refine wpList_append_own_at (P := Tryz.prog) wx hgd s x _ ho B _ i _ 2 48 Tryz.underlying35 hi hz hsize hby rfl (by omega) v ts.length (qcells ts) hs hown.own ⟨g, 0, none⟩ us.length c (qcells us) hx (qcells_len us) ?_ h1 (by unfold maxLen; omega) (by omega) hown.le ?_
  · intro j u hu
    rw [Addr.add_lit, Nat.zero_add]
    exact hc j u hu
  · intro v' w' h1 h2 h3 h4
    have key : ∀ t : QItem, ((Sl wx t.vn t.n ∧ Sl wx t.vd t.d) ∧ ∀ g, v.ownBlock = some g → Off g t.vn t.n ∧ Off g t.vd t.d) → (Sl w' t.vn t.n ∧ Sl w' t.vd t.d) ∧ ∀ g, v'.ownBlock = some g → Off g t.vn t.n ∧ Off g t.vd t.d := by
      intro t ⟨⟨k1, k2⟩, k3⟩
      refine ⟨⟨k1.grown h2 (fun g e => (k3 g e).1), k2.grown h2 (fun g e => (k3 g e).2)⟩, fun g e => ?_⟩
      rcases h4 with hb | hb
      · exact k3 g (hb ▸ e)
      · rw [hb] at e; injection e with e; subst e; exact ⟨k1.off (Nat.le_refl _), k2.off (Nat.le_refl _)⟩
    refine h v' w' ⟨?_, ?_, ?_⟩ h2
    · rw [List.length_append, qcells_append]; exact h1
    · intro t ht
      rcases List.mem_append.1 ht with ht | ht
      · exact key t (hown.sl t ht)
      · exact key t (hsl t ht)
    · exact Nat.le_trans hown.le h2.size
theorem Blk.qrow {W : World} {g : Nat} {us : List QItem} (h : Blk W g 26 (qcells us).toArray) : ∀ (j : Nat) (u : Value), (qcells us)[j]? = some u → W.cell? ⟨g, j, none⟩ = some u :=
  fun j u hu => h.cell j (by simpa using hu)
/-- A slice that reads as fractions. -/
structure QS (W : World) (v : Value) (ts : List QItem) : Prop where
  ex : ∃ ao c, v = .slice ao ts.length c ∧ (ts ≠ [] → ∃ g, ao = some ⟨g, 0, none⟩ ∧ ∀ i t, ts[i]? = some t → W.cell? ⟨g, i * 2, none⟩ = some t.vn ∧ W.cell? ⟨g, i * 2 + 1, none⟩ = some t.vd)
  sl : ∀ t ∈ ts, Sl W t.vn t.n ∧ Sl W t.vd t.d
theorem QS.keep {W W' : World} {v : Value} {ts : List QItem} (h : QS W v ts) (hk : Kp W W') : QS W' v ts := by
  obtain ⟨⟨ao, c, e, hc⟩, hs⟩ := h
  refine ⟨⟨ao, c, e, fun hne => ?_⟩, fun t ht => ⟨(hs t ht).1.keep hk, (hs t ht).2.keep hk⟩⟩
  obtain ⟨g, rfl, hx⟩ := hc hne
  exact ⟨g, rfl, fun i t ht => ⟨cellK (hx i t ht).1 hk, cellK (hx i t ht).2 hk⟩⟩
theorem QRow.qs {B : Nat} {W : World} {v : Value} {ts : List QItem} (h : QRow B W v ts) : QS W v ts := by
  refine ⟨?_, fun t ht => (h.sl t ht).1⟩
  rcases h.own.2 with ⟨rfl, h0⟩ | ⟨g, cap, cur, rfl, hb, hg, hnc, hcm, hsz, htake⟩
  · exact ⟨none, 0, by rw [h0], fun hne => absurd (List.length_eq_zero_iff.1 h0) hne⟩
  · refine ⟨_, cap, rfl, fun _ => ⟨g, rfl, fun i t ht => ?_⟩⟩
    have hi : i < ts.length := by
      rcases Nat.lt_or_ge i ts.length with h | h
      · exact h
      · rw [List.getElem?_eq_none h] at ht; cases ht
    have key : ∀ j u, j < 2 → (qcell t)[j]? = some u → W.cell? ⟨g, i * 2 + j, none⟩ = some u := by
      intro j u hj hu
      rw [cell_of_row W g _ _ _ (0, 0) hg, ← Array.getElem?_toList]
      have h1 := qcells_at ts i t ht j hj
      rw [hu, ← htake, List.getElem?_take, if_pos (by omega)] at h1
      exact h1
    exact ⟨key 0 _ (by omega) rfl, key 1 _ (by omega) rfl⟩
theorem QS.at {W : World} {v : Value} {ts : List QItem} (h : QS W v ts) {ao : Option Addr} {n c : Nat} (hv : v = .slice ao n c) {i : Nat} {t : QItem} (ht : ts[i]? = some t) :
    ∃ g, ao = some ⟨g, 0, none⟩ ∧ W.cell? ⟨g, i * 2, none⟩ = some t.vn ∧ W.cell? ⟨g, i * 2 + 1, none⟩ = some t.vd ∧ Sl W t.vn t.n ∧ Sl W t.vd t.d := by
  obtain ⟨⟨ao', c', e, hc⟩, hs⟩ := h
  rw [hv] at e
  simp only [Value.slice.injEq] at e
  obtain ⟨rfl, -, -⟩ := e
  obtain ⟨g, rfl, hx⟩ := hc (fun e => by subst e; simp at ht)
  exact ⟨g, rfl, (hx i t ht).1, (hx i t ht).2, hs t (List.mem_of_getElem? ht)⟩
end Go.Proofs.YtdoponlhiidimaaGreatDoor
