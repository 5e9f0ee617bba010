/- append of keys that lie elsewhere to a row of one's own; the row reads as before, too. No condition. -/
import Derived.Test.YtpgnckjgclbepaaDoorKyU
import Derived.Laws.AppendOwnNone
import Derived.Maps.AppendAt
namespace Go.Proofs.YtpgnckjgclbepaaDoor
namespace By
open Go.RowKit WireN LexN RevN KeyN
set_option linter.unusedVariables false
set_option linter.unusedSimpArgs false

theorem kcel_one : ∀ (ks : List Ky), ∀ u ∈ kcel ks, u.oneCell' = true := by
  intro ks u hu
  simp only [kcel, List.mem_flatMap] at hu
  obtain ⟨x, -, h⟩ := hu
  simp at h
  rcases h with rfl | rfl | rfl <;> rfl
theorem kcel_news {w : World} {b off : Nat} : ∀ {rs : List Ky} , (∀ (j : Nat) (x : Ky), rs[j]? = some x → K3 w b (off + j * 3) x) → ∀ (j : Nat) (u : Value), (kcel rs)[j]? = some u → w.cell? ((⟨b, off, none⟩ : Addr).add j) = some u := by
  intro rs h j u hu
  have hl := kcel_len rs
  have hj : j < (kcel rs).length := (List.getElem?_eq_some_iff.1 hu).1
  obtain ⟨x, hx⟩ : ∃ x, rs[j / 3]? = some x := ⟨_, List.getElem?_eq_getElem (by omega)⟩
  obtain ⟨c0, c1, c2⟩ := h _ x hx
  obtain ⟨d0, d1, d2⟩ := kcel_at rs _ x hx
  rw [Addr.add_lit]
  obtain e | e | e : j = j / 3 * 3 ∨ j = j / 3 * 3 + 1 ∨ j = j / 3 * 3 + 2 := by omega
  · rw [e] at hu
    rw [d0] at hu
    injection hu with hu
    rw [e, ← hu]
    exact c0
  · rw [e] at hu
    rw [d1] at hu
    injection hu with hu
    rw [e, ← hu]
    exact c1
  · rw [e] at hu
    rw [d2] at hu
    injection hu with hu
    rw [e, ← hu]
    exact c2
theorem append_both {w wx : World} {v : Value} {ad : Addr} {cap : Nat} {ks rs : List Ky} (hown : OwK w wx v ks) (hrok : ∀ x ∈ rs, KyOk x) (hnews : ∀ (j : Nat) (u : Value), (kcel rs)[j]? = some u → wx.cell? (ad.add j) = some u) (hsm : ks.length + rs.length ≤ 1000) (ty : TypeId) :
    ∃ v' w', (Builtin.append_ #[23, 23] ty #[v, .slice (some ad) rs.length cap]).run Tryd.prog wx = .ok v' w' ∧ OwK w w' v' (ks ++ rs) ∧ OwK w w' v ks ∧ wx.grownBy w' v.ownBlock ∧ (v'.ownBlock = v.ownBlock ∨ v'.ownBlock = some wx.heap.size) := by
  obtain ⟨i, hi, hz, hsize, hby⟩ := info_parts infoKey
  have hl : (kcel rs).length = rs.length * 3 := by rw [kcel_len]; omega
  obtain ⟨v', w', h1, h2, h3, h4, h5⟩ := run_append_own_at (P := Tryd.prog) wx w.heap.size 23 ty 29 i _ 3 40 Tryd.underlying23 hi hz hsize hby rfl (by omega) v ks.length (kcel ks) hown.owns ad rs.length cap (kcel rs) hl hnews (kcel_one rs) (by unfold maxLen; omega) (by omega) hown.kp.size
  have hk : Kp w w' := Below.grown hown.kp h3 hown.kp.size (fun k hk => ((row_frm hown.owns).2 k hk).1)
  refine ⟨v', w', h1, ⟨by rw [List.length_append, kcel_app]; exact h2, fun x hx => ?_, hk⟩, ?_, h3, h5⟩
  · rcases List.mem_append.1 hx with h | h
    · exact hown.ok x h
    · exact hrok x h
  · rcases hown.owns.2 with ⟨rfl, h0⟩ | ⟨g, c, cur, rfl, hb, hg, hnc, hcm, hsz, htake⟩
    · have hk0 : ks = [] := List.length_eq_zero_iff.1 h0
      subst hk0
      exact ⟨World.ownsRow_nil _ _ _ _, fun x hx => by simp at hx, hk⟩
    · refine ⟨⟨hown.owns.1, .inr ?_⟩, hown.ok, hk⟩
      by_cases hroom : ks.length + rs.length ≤ c
      · have hlk := kcel_len ks
        have hfit : ks.length * i.size + (kcel rs).length ≤ cur.size := by rw [hsize, hl, hsz]; omega
        have hr2 := run_append_room (P := Tryd.prog) (w := wx) 23 ty 29 i Tryd.underlying23 hi g ks.length c cur hg ad rs.length cap (kcel rs) (by rw [hsize]; exact hl) hnews (kcel_one rs) hroom hfit
        rw [h1] at hr2
        simp only [Result.ok.injEq] at hr2
        obtain ⟨-, rfl⟩ := hr2
        refine ⟨g, c, _, rfl, hb, setRow_heap wx g cur _ 29 _ hg, hnc, hcm, ?_, ?_⟩
        · rw [hsize] at hfit ⊢
          simp only [List.size_toArray, List.length_append, List.length_take, List.length_drop, Array.length_toList]
          omega
        · rw [hsize, htake]
          simp only [List.append_assoc]
          rw [show ks.length * 3 = (kcel ks).length by omega]
          exact List.take_left
      · have hr2 := run_append_grow (P := Tryd.prog) (w := wx) 23 ty 29 i _ Tryd.underlying23 hi hz ⟨g, 0, none⟩ ks.length c (kcel ks) (by rw [hsize]; exact hown.owns.1) (hown.owns.cells (g := g) rfl) ad rs.length cap (kcel rs) (by rw [hsize]; exact hl) hnews (by omega) (by omega) (growslice_fits (by omega) (by rw [hby]; omega))
        rw [h1] at hr2
        simp only [Result.ok.injEq] at hr2
        obtain ⟨-, rfl⟩ := hr2
        have hold : ∀ o : Obj, (wx.drew.alloc o).heap[g]? = some (.cells cur 29 (0, 0)) := fun o => by
          have hlt : g < wx.heap.size := (Array.getElem?_eq_some_iff.1 hg).1
          exact (heap_alloc_old wx.drew _ hlt).trans hg
        exact ⟨g, c, cur, rfl, hb, hold _, hnc, hcm, hsz, htake⟩
/-- append of keys to a row of one's own, as an operation. -/
theorem wpList_ks {w wx : World} {ops : Array Oper} {rest : List Oper} {o : Oper} {a : Act} {Q : Exit → Act → World → Prop} (hgd : o.guard = none) (s x : Operand)
    (ho : o.op = .call { callee := .builtin .append, args := #[s, x], argTypes := #[23, 23] })
    (v u : Value) {ks rs : List Ky} (hs : a.eval s = v) (hown : OwK w wx v ks) (hx : a.eval x = u) (hr : Kw wx u rs) (hsm : ks.length + rs.length ≤ 1000)
    (h : ∀ v' w', OwK w w' v' (ks ++ rs) → OwK w w' v ks → wx.grownBy w' v.ownBlock → (v'.ownBlock = v.ownBlock ∨ v'.ownBlock = some wx.heap.size) → wpList Tryd.prog ops Q rest (a.put o.dst v') w') : wpList Tryd.prog ops Q (o :: rest) a wx := by
  obtain ⟨i, hi, hz1, hsize, hby⟩ := info_parts infoKey
  obtain ⟨ao, cap, rfl, hcap, hmx, hnone⟩ := hr.open3
  cases ao with
  | none =>
    obtain rfl := hnone rfl
    have hrs : rs = [] := List.length_eq_zero_iff.1 (by omega)
    subst hrs
    refine wpList_append_own_none (P := Tryd.prog) hgd s x _ ho w.heap.size 29 i 3 Tryd.underlying23 hi v ks.length (kcel ks) hs hown.owns hx ?_
    exact h v wx (by rw [List.append_nil]; exact hown) hown (World.grownBy.refl _ _) (.inl rfl)
  | some ad =>
    have hnews : ∀ (j : Nat) (u : Value), (kcel rs)[j]? = some u → wx.cell? (ad.add j) = some u := by
      by_cases hne : 0 < rs.length
      · obtain ⟨b, off, e, hcell⟩ := hr.cell hne
        injection e with e
        subst e
        exact kcel_news hcell
      · have hrs : rs = [] := List.length_eq_zero_iff.1 (by omega)
        subst hrs
        intro j u hu
        simp [kcel] at hu
    refine wpList_plain hgd fun K hK => ?_
    obtain ⟨v', w', h1, h2, h3, h4, h5⟩ := append_both (cap := cap) hown hr.ok hnews hsm o.type
    unfold Oper.wp execOp
    simp only [ho, resolve, invoke, builtin, Sem.run_bind, Sem.run_pure, Result.andThen_ok, List.map_toArray, List.map_cons, List.map_nil, hs, hx, h1]
    exact hK _ _ (h v' w' h2 h3 h4 h5)
end By
end Go.Proofs.YtpgnckjgclbepaaDoor
