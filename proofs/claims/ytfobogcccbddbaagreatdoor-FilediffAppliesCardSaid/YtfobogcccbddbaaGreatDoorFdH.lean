/- Changes that mostly fit a revision, drawn from the tape. Conditions: the tape has so many draws left; the slices read as the files that are named, at most twenty each, apart from the tape's block. -/
import Derived.Test.YtfobogcccbddbaaGreatDoorFdX
import Derived.Test.YtfobogcccbddbaaGreatDoorZap
namespace Go.Proofs.YtfobogcccbddbaaGreatDoor
namespace FdN
open RevN LexN
theorem difA_len (a b : List Fl) : (difA a b).length ≤ a.length + b.length := by
  unfold difA
  split
  · have h1 := rk_len a b (gn a b).length
    have h2 := (dk_len a b b.length (Nat.le_refl _)).2
    rw [dk_all a b (Nat.le_refl _)] at h2
    have h3 := gnk_len a b a.length
    rw [gnk_all a b (Nat.le_refl _)] at h3
    have h4 : difL a b = rk a b (gn a b).length := rfl
    rw [h4]
    omega
  · simp
end FdN
namespace By
open Go.RowKit WireN LexN RevN FdN
set_option linter.unusedVariables false
set_option linter.unusedSimpArgs false

theorem pick5 {w0 W : World} {g n : Nat} (ht : Tq w0 W g (n + 1)) (hg : g < W.heap.size) :
    Calls Tryz.prog 36 #[.pointer (some ⟨g, 0, none⟩), .slice (some ⟨W.heap.size, 0, none⟩) 5 5] (W.alloc (.cells #[.int .i64 1, .int .i64 2, .int .i64 3, .int .i64 4, .int .i64 0] 3)) fun e w' => (∃ r : Nat, r ≤ 4 ∧ e = .returned (.int .i64 r)) ∧ Tq w0 w' g n ∧ Gr g W w' := by
  refine (Pick_q (n := n) (M := 4) (ht.keep (kp_alloc _ _)) (by omega) (by omega) (by omega) (by
    intro i hi
    have hb := Blk.new W 3 #[.int .i64 1, .int .i64 2, .int .i64 3, .int .i64 4, .int .i64 0]
    match i, hi with
    | 0, _ => exact ⟨1, by omega, hb.cell 0 rfl⟩
    | 1, _ => exact ⟨2, by omega, hb.cell 1 rfl⟩
    | 2, _ => exact ⟨3, by omega, hb.cell 2 rfl⟩
    | 3, _ => exact ⟨4, by omega, hb.cell 3 rfl⟩
    | 4, _ => exact ⟨0, by omega, hb.cell 4 rfl⟩
    | k + 5, h => omega)).mono ?_
  rintro e w' ⟨h1, h2, h3⟩
  exact ⟨h1, h2, Gr.trans ((kp_alloc _ _).gr g) h3⟩
theorem one_new {w0 W : World} {g n k : Nat} {ss : List ByteArray} (ht : Tq w0 W g (n + 1)) (hg : g < W.heap.size) (hk : ss.length = k) (hs : ∀ s ∈ ss, s.size ≤ 8) (hf : ss.length ≤ 10) :
    Calls Tryz.prog 37 #[.pointer (some ⟨g, 0, none⟩), .slice (some ⟨W.heap.size, 0, none⟩) k k] (W.alloc (.cells (ss.map Value.string).toArray 9)) fun e w' => (∃ s : ByteArray, e = .returned (.string s) ∧ s.size ≤ 8) ∧ Tq w0 w' g n ∧ Gr g W w' := by
  subst hk
  refine (One_q (n := n) (ht.keep (kp_alloc _ _)) (Ps.blk (Blk.new _ _ _) (by omega) hs hf)).mono ?_
  rintro e w' ⟨⟨s, h1, h2, -⟩, h3, h4⟩
  exact ⟨⟨s, h1, h2⟩, h3, Gr.trans ((kp_alloc _ _).gr g) h4⟩
theorem OwD.opn {lo : Nat} {wr : World} {oc : Option Addr} {lc cc : Nat} {ks : List Ch} (h : OwD lo wr (.slice oc lc cc) ks) (h0 : 0 < ks.length) : ∃ gb, oc = some ⟨gb, 0, none⟩ ∧ lo ≤ gb ∧ ∃ cur, Blk wr gb 50 cur ∧ cur.toList.take (4 * ks.length) = ccel ks := by
  rcases h.owns.2 with ⟨e, h1⟩ | ⟨g, cap, cur, e, hb, hg, hnc, hcm, hsz, htake⟩
  · omega
  · obtain ⟨rfl, rfl, rfl⟩ : oc = some ⟨g, 0, none⟩ ∧ lc = ks.length ∧ cc = cap := by simpa using e
    refine ⟨g, rfl, hb, cur, hg, ?_⟩
    rw [Nat.mul_comm]
    exact htake
theorem OwD.rowC {lo gb : Nat} {wr : World} {lc cc : Nat} {ks : List Ch} (h : OwD lo wr (.slice (some ⟨gb, 0, none⟩) lc cc) ks) : (∀ (j : Nat) (x : Ch), ks[j]? = some x → C4 wr gb (j * 4) x) ∧ ∀ j : Nat, wr.frozen? ⟨gb, j * 4, none⟩ = false ∧ wr.frozen? ⟨gb, j * 4 + 1, none⟩ = false ∧ wr.frozen? ⟨gb, j * 4 + 2, none⟩ = false ∧ wr.frozen? ⟨gb, j * 4 + 3, none⟩ = false := by
  rcases h.owns.2 with ⟨e, h1⟩ | ⟨g, cap, cur, e, hb, hg, hnc, hcm, hsz, htake⟩
  · simp at e
  · obtain ⟨rfl, rfl, rfl⟩ : gb = g ∧ lc = ks.length ∧ cc = cap := by simpa using e
    have hB : Blk wr gb 50 cur := hg
    refine ⟨?_, fun j => ⟨hB.free _, hB.free _, hB.free _, hB.free _⟩⟩
    intro j x hx
    rcases h.cw.ex with ⟨ao, c, e, -, -, h4, -⟩
    obtain ⟨rfl, -⟩ : ao = some ⟨gb, 0, none⟩ ∧ c = cc := by simpa [eq_comm] using e
    rcases h4 with rfl | ⟨b, off, e, hc⟩
    · simp at hx
    · obtain ⟨rfl, rfl⟩ : gb = b ∧ 0 = off := by simpa using e
      have := hc j x hx
      rw [Nat.zero_add] at this
      exact this
/-- What is answered. -/
def ChgR (w0 : World) (g n : Nat) (w : World) (e : Ending) (w' : World) : Prop :=
  ∃ u D, e = .returned u ∧ Cw w' u D ∧ D.length ≤ 42 ∧ (∀ c, u.ownBlock = some c → w.heap.size ≤ c) ∧ Tq w0 w' g n ∧ Gr g w w'
/-- What holds while the changes are made. -/
structure CgI (w0 w W : World) (g n lo : Nat) (u : Value) (D : List Ch) : Prop where
  own : OwD lo W u D
  tq : Tq w0 W g n
  gr : Gr g w W
  gl : g < w.heap.size
  low : w.heap.size ≤ lo
  sz : lo ≤ W.heap.size
theorem CgI.draw {w0 w W W' : World} {g n m lo : Nat} {u : Value} {D : List Ch} (h : CgI w0 w W g n lo u D) (hg : Gr g W W') (ht : Tq w0 W' g m) : CgI w0 w W' g m lo u D :=
  ⟨h.own.gr hg (by have := h.gl; have := h.low; omega), ht, Gr.trans h.gr hg, h.gl, h.low, Nat.le_trans h.sz hg.size⟩
theorem CgI.less {w0 w W : World} {g n m lo : Nat} {u : Value} {D : List Ch} (h : CgI w0 w W g n lo u D) (hm : m ≤ n) : CgI w0 w W g m lo u D := ⟨h.own, h.tq.less hm, h.gr, h.gl, h.low, h.sz⟩
theorem CgI.g {w0 w W : World} {g n lo : Nat} {u : Value} {D : List Ch} (h : CgI w0 w W g n lo u D) : g < W.heap.size := by have := h.gl; have := h.low; have := h.sz; omega

/-- A row's cells with one change put in. -/
def arr4 (cur : Array Value) (i : Nat) (y : Ch) : Array Value := (((cur.setIfInBounds (i * 4) (.int .i64 y.1)).setIfInBounds (i * 4 + 1) (.string (st y.2.1))).setIfInBounds (i * 4 + 2) (.string (st y.2.2.1))).setIfInBounds (i * 4 + 3) (.string (st y.2.2.2))
def put4 (W : World) (gb i : Nat) (y : Ch) : World := (((W.setCell ⟨gb, i * 4, none⟩ (.int .i64 y.1)).setCell ⟨gb, i * 4 + 1, none⟩ (.string (st y.2.1))).setCell ⟨gb, i * 4 + 2, none⟩ (.string (st y.2.2.1))).setCell ⟨gb, i * 4 + 3, none⟩ (.string (st y.2.2.2))
def PA (cur : Array Value) (D : List Ch) : Prop := ∀ (j : Nat) (x : Ch), D[j]? = some x → cur[j * 4]? = some (.int .i64 x.1) ∧ cur[j * 4 + 1]? = some (.string (st x.2.1)) ∧ cur[j * 4 + 2]? = some (.string (st x.2.2.1)) ∧ cur[j * 4 + 3]? = some (.string (st x.2.2.2))
theorem PA.put {cur : Array Value} {D : List Ch} {i : Nat} {y : Ch} (h : PA cur D) (hi : i < D.length) : PA (arr4 cur i y) (D.set i y) := by
  intro j x hx
  obtain ⟨z, hz⟩ : ∃ z, D[i]? = some z := ⟨_, List.getElem?_eq_getElem hi⟩
  obtain ⟨-, -, -, z3⟩ := h i z hz
  have s3 : i * 4 + 3 < cur.size := (Array.getElem?_eq_some_iff.1 z3).1
  by_cases hj : i = j
  · subst hj
    rw [List.getElem?_set_self hi] at hx
    have e := Option.some.inj hx
    subst e
    unfold arr4
    refine ⟨?_, ?_, ?_, ?_⟩
    · rw [Array.getElem?_setIfInBounds_ne (by omega), Array.getElem?_setIfInBounds_ne (by omega), Array.getElem?_setIfInBounds_ne (by omega), Array.getElem?_setIfInBounds_self_of_lt (by omega)]
    · rw [Array.getElem?_setIfInBounds_ne (by omega), Array.getElem?_setIfInBounds_ne (by omega), Array.getElem?_setIfInBounds_self_of_lt (by simp; omega)]
    · rw [Array.getElem?_setIfInBounds_ne (by omega), Array.getElem?_setIfInBounds_self_of_lt (by simp; omega)]
    · rw [Array.getElem?_setIfInBounds_self_of_lt (by simp; omega)]
  · rw [List.getElem?_set_ne hj] at hx
    obtain ⟨x0, x1, x2, x3⟩ := h j x hx
    unfold arr4
    refine ⟨?_, ?_, ?_, ?_⟩ <;> rw [Array.getElem?_setIfInBounds_ne (by omega), Array.getElem?_setIfInBounds_ne (by omega), Array.getElem?_setIfInBounds_ne (by omega), Array.getElem?_setIfInBounds_ne (by omega)] <;> assumption
theorem put4_blk {W : World} {gb i : Nat} {t : TypeId} {cur : Array Value} (h : Blk W gb t cur) (y : Ch) : Blk (put4 W gb i y) gb t (arr4 cur i y) := (((h.set _ _).set _ _).set _ _).set _ _
theorem put4_only {W : World} {gb i : Nat} (y : Ch) : Only gb W (put4 W gb i y) := ((((Only.refl gb W).set _ _).set _ _).set _ _).set _ _
theorem CgI.swap {w0 w W : World} {g n lo gb lc cc i k : Nat} {D : List Ch} {x y : Ch} (h : CgI w0 w W g n lo (.slice (some ⟨gb, 0, none⟩) lc cc) D) (hx : D[i]? = some x) (hy : D[k]? = some y) (hl : D.length ≤ 42) :
    ChgR w0 g n w (.returned (.slice (some ⟨gb, 0, none⟩) lc cc)) (put4 (put4 W gb i y) gb k x).drew := by
  have hi := (List.getElem?_eq_some_iff.1 hx).1
  have hk := (List.getElem?_eq_some_iff.1 hy).1
  have hlo := h.own.newer gb rfl
  have hgl := h.gl; have hlow := h.low
  obtain ⟨ao, c, e, e1, e2, -, e3⟩ := h.own.cw.ex
  obtain ⟨gb', hgb, -, cur, hB, htk⟩ := h.own.opn (by omega)
  obtain rfl : gb = gb' := by simpa using hgb
  have hP : PA cur D := by
    intro j z hz
    obtain ⟨q0, q1, q2, q3⟩ := h.own.rowC.1 j z hz
    rw [cell_of_row W gb _ cur _ (0, 0) hB] at q0 q1 q2 q3
    exact ⟨q0, q1, q2, q3⟩
  have hP2 := (hP.put (y := y) hi).put (i := k) (y := x) (by rw [List.length_set]; exact hk)
  have hB2 : Blk (put4 (put4 W gb i y) gb k x) gb _ _ := put4_blk (put4_blk hB y) x
  have o1 : Only gb W (put4 W gb i y) := put4_only y
  have o2 : Only gb (put4 W gb i y) (put4 (put4 W gb i y) gb k x) := put4_only x
  have q1 : Tq w0 (put4 (put4 W gb i y) gb k x) g n := by
    have := h.tq.ge
    exact (h.tq.only o1 (by omega) (by omega)).only o2 (by omega) (by omega)
  have q2 : Gr g w (put4 (put4 W gb i y) gb k x) := Gr.by (Gr.by h.gr (Only.gr o1) (fun r hr => by injection hr; omega)) (Only.gr o2) (fun r hr => by injection hr; omega)
  have hC : Cw (put4 (put4 W gb i y) gb k x) (.slice (some ⟨gb, 0, none⟩) lc cc) ((D.set i y).set k x) := by
    refine ⟨⟨some ⟨gb, 0, none⟩, cc, ?_, ?_, ?_, .inr ⟨gb, 0, rfl, fun j z hz => ?_⟩, fun h => nomatch h⟩, ?_⟩
    · rw [List.length_set, List.length_set]
      simp only [Value.slice.injEq] at e
      rw [e.2.1]
    · rw [List.length_set, List.length_set]
      simp only [Value.slice.injEq] at e
      omega
    · simp only [Value.slice.injEq] at e
      omega
    · obtain ⟨c0, c1, c2, c3⟩ := hP2 j z hz
      rw [Nat.zero_add]
      exact ⟨hB2.cell _ c0, hB2.cell _ c1, hB2.cell _ c2, hB2.cell _ c3⟩
    · intro z hz
      rcases List.mem_or_eq_of_mem_set hz with hz | rfl
      · rcases List.mem_or_eq_of_mem_set hz with hz | rfl
        · exact h.own.ok z hz
        · exact h.own.ok _ (List.mem_of_getElem? hy)
      · exact h.own.ok _ (List.mem_of_getElem? hx)
  exact ⟨_, _, rfl, hC.keep (kp_drew _), by rw [List.length_set, List.length_set]; exact hl, fun c hc => by have : gb = c := Option.some.inj hc; omega, q1.keep (kp_drew _), Gr.trans q2 ((kp_drew _).gr g)⟩

set_option maxRecDepth 100000 in
set_option maxHeartbeats 16000000 in
theorem changes_q {w0 w : World} {g n : Nat} {va vb : Value} {a b : List Fl} (ht : Tq w0 w g (n + 2 + 2 * 4 + 1)) (hra : Rw w va a) (hrb : Rw w vb b) (hla : a.length ≤ 20) (hlb : b.length ≤ 20) :
    Calls Tryz.prog 13 #[.pointer (some ⟨g, 0, none⟩), .agg #[va], .agg #[vb]] w (ChgR w0 g n w) := by
  obtain ⟨aa, la, ca, hva⟩ := hra.form
  obtain ⟨ab, lb, cb, hvb⟩ := hrb.form
  subst hva hvb
  obtain ⟨Q, hQ⟩ : ∃ Q : Ending → World → Prop, Q = ChgR w0 g n w := ⟨_, rfl⟩
  rw [← hQ]
  obtain ⟨Wa, hWa⟩ : ∃ W, W = w.alloc (.cells #[.slice aa la ca] 25) := ⟨_, rfl⟩
  obtain ⟨X0, hX0⟩ : ∃ W, W = Wa.alloc (.cells #[.slice ab lb cb] 25) := ⟨_, rfl⟩
  have ka : Kp w Wa := by rw [hWa]; exact kp_alloc w _
  have kx : Kp Wa X0 := by rw [hX0]; exact kp_alloc Wa _
  have hk0 := Kp.trans ka kx
  have HX0 : Hid (X0 = (w.alloc (.cells #[.slice aa la ca] 25)).alloc (.cells #[.slice ab lb cb] 25)) := Lib.hid (by rw [hX0, hWa])
  have HDF := Lib.hid (rDiff_any (hra.keep hk0) (hrb.keep hk0))
  have HT := Lib.hid (ht.keep hk0); have HK0 := Lib.hid hk0; have HGL := Lib.hid ht.lt; have HQ := Lib.hid hQ
  have HLD : Hid ((difA a b).length ≤ 40) := Lib.hid (by have := difA_len a b; omega)
  clear ht hra hrb hla hlb hWa hX0 ka kx hk0 hQ
  go_enter Tryz.func13, Tryz.ntmps13
  go_wp2_with fail
  rw [← HX0.out]
  refine HDF.out.mono ?_
  rintro e w1 ⟨u, rfl, hu, hown, hk1⟩
  obtain ⟨ao, cap, huv, -, -, -⟩ := hu.open3
  obtain ⟨D0, hD0⟩ : ∃ D, D = difA a b := ⟨_, rfl⟩
  rw [← hD0] at hu huv HLD
  obtain ⟨nd, hnd⟩ : ∃ n, n = D0.length := ⟨_, rfl⟩
  rw [← hnd] at huv
  subst huv
  have HU := Lib.hid hu; have HK1 := Lib.hid hk1
  clear hu hown hk1 HDF hnd hD0
  go_wp2_with (at_builtin; refine wpList_cl4 rfl (.const (.slice none 0 0)) (.tmp 18) rfl rfl rfl HU.out (by have := HLD.out; omega) ?_)
  intro v2 w2 ho2
  obtain ⟨⟨o2, l2, c2, hv2⟩, -⟩ := row_form ho2.owns
  subst hv2
  have HI : Hid (CgI w0 w w2 g (n + 2 + 2 * 4 + 1) w1.heap.size (.slice o2 l2 c2) D0) := Lib.hid (by
    have h1 := HK0.out.size; have h2 := HK1.out.size
    exact ⟨ho2.d, (HT.out.keep HK1.out).keep ho2.kp, ((Kp.trans HK0.out HK1.out).trans ho2.kp).gr g, HGL.out, by omega, ho2.kp.size⟩)
  have HNX := Lib.hid (Next_q (n := n + 2 + 2 * 4) HI.out.tq 3 (by omega) (by omega))
  clear ho2 HT
  go_wp2_with fail
  refine HNX.out.mono ?_
  rintro e w3 ⟨⟨r, hr3, rfl⟩, hq3, hg3⟩
  have HI3 := Lib.hid (HI.out.draw hg3 hq3)
  clear hq3 hg3 HNX HI
  go_wp2_with fail
  go_loopw [7, 9] (fun v i wr => ∃ (j : Nat) (oc : Option Addr) (lc cc : Nat) (D : List Ch), v = .slice oc lc cc ∧ i = .int .i64 j ∧ j + D.length ≤ 42 ∧ j ≤ 2 ∧ CgI w0 w wr g (n + 2 + j * 4) w1.heap.size (.slice oc lc cc) D) (fun _ i _ => (intOf i).toNat)
  case atStart => exact ⟨r, _, _, _, D0, rfl, rfl, by have := HLD.out; omega, by omega, HI3.out.less (by omega)⟩
  case round =>
    obtain ⟨j, oc, lc, cc, D, rfl, rfl, hjl, hj2, hi⟩ := hrel
    rename World => wx
    have HX := Lib.hid hi
    clear hi HI3
    by_cases hj0 : 0 < j
    · obtain ⟨j, rfl⟩ : ∃ i, j = i + 1 := ⟨j - 1, by omega⟩
      have HY0 := Lib.hid (HX.out.less (m := n + 2 + j * 4 + 1 + 1 + 1 + 1) (by omega))
      have HPK := Lib.hid (pick5 HY0.out.tq HY0.out.g)
      go_wp2_with fail
      refine HPK.out.mono ?_
      rintro e wp ⟨⟨kd, hkd, rfl⟩, hqp, hgp⟩
      have HYP := Lib.hid (HY0.out.draw hgp hqp)
      have HO1 := Lib.hid (one_new (k := 6) (ss := [⟨#[97, 46, 115, 114, 99]⟩, ⟨#[98, 46, 115, 114, 99]⟩, ⟨#[99]⟩, ⟨#[110, 101, 119]⟩, ⟨#[97, 46, 100, 97, 116]⟩, ⟨#[65]⟩]) HYP.out.tq HYP.out.g rfl (by decide) (by decide))
      clear hqp hgp HPK
      go_wp2_with fail
      refine HO1.out.mono ?_
      rintro e wq ⟨⟨s1, rfl, hs1⟩, hqq, hgq⟩
      have HYQ := Lib.hid (HYP.out.draw hgq hqq)
      have HO2 := Lib.hid (one_new (k := 4) (ss := [⟨#[]⟩, ⟨#[]⟩, ⟨#[97, 46, 115, 114, 99]⟩, ⟨#[99]⟩]) HYQ.out.tq HYQ.out.g rfl (by decide) (by decide))
      clear hqq hgq HO1 HYP
      go_wp2_with fail
      refine HO2.out.mono ?_
      rintro e wr ⟨⟨s2, rfl, hs2⟩, hqr, hgr⟩
      have HYR := Lib.hid (HYQ.out.draw hgr hqr)
      have HO3 := Lib.hid (one_new (k := 3) (ss := [⟨#[]⟩, ⟨#[]⟩, ⟨#[120]⟩]) HYR.out.tq HYR.out.g rfl (by decide) (by decide))
      clear hqr hgr HO2 HYQ
      go_wp2_with fail
      refine HO3.out.mono ?_
      rintro e ws ⟨⟨s3, rfl, hs3⟩, hqs, hgs⟩
      have HYS := Lib.hid (HYR.out.draw hgs hqs)
      obtain ⟨x, hx⟩ : ∃ x : Ch, x = ((kd : Int), bs s1, bs s2, bs s3) := ⟨_, rfl⟩
      have HXK : Hid (ChOk x) := Lib.hid (by
        rw [hx]
        exact ⟨⟨by show -_ ≤ (kd : Int); omega, by show (kd : Int) ≤ _; omega⟩, ⟨bs_lt _, bs_lt _, bs_lt _⟩, ⟨by show (bs s1).length ≤ _; rw [bs_len]; omega, by show (bs s2).length ≤ _; rw [bs_len]; omega, by show (bs s3).length ≤ _; rw [bs_len]; omega⟩⟩)
      obtain ⟨wt, hwt⟩ : ∃ W, W = ws.alloc (.cells #[.int .i64 kd, .string s1, .string s2, .string s3] 50) := ⟨_, rfl⟩
      have HYT : Hid (CgI w0 w wt g (n + 2 + j * 4) w1.heap.size (.slice oc lc cc) D) := Lib.hid (by rw [hwt]; exact HYS.out.draw ((kp_alloc _ _).gr g) (HYS.out.tq.keep (kp_alloc _ _)))
      have HBT : Hid (Blk wt ws.heap.size 50 #[.int .i64 x.1, .string (st x.2.1), .string (st x.2.2.1), .string (st x.2.2.2)]) := Lib.hid (by
        rw [hx, hwt, st_bs, st_bs, st_bs]
        exact Blk.new _ _ _)
      have HWT := Lib.hid hwt
      clear hqs hgs HO3 HYR hs1 hs2 hs3 hkd hx hwt
      go_wp2_with (rw [← HWT.out]; at_builtin; refine wpList_chd rfl (.tmp 26) (.tmp 40) rfl _ rfl HYT.out.own HYT.out.sz (by omega) x HXK.out ws.heap.size rfl HBT.out ?_)
      intro v5 w5 ho5 hg5 hb5
      obtain ⟨⟨o5, l5, c5, hv5⟩, -⟩ := row_form ho5.owns
      subst hv5
      have HI5 : Hid (CgI w0 w w5 g (n + 2 + j * 4) w1.heap.size (.slice o5 l5 c5) (D ++ [x])) := Lib.hid (by
        have h1 := HYT.out.gl; have h2 := HYT.out.low; have h3 := HYT.out.tq.ge
        have hn : ∀ r, (Value.slice oc lc cc).ownBlock = some r → w1.heap.size ≤ r := HYT.out.own.newer
        exact ⟨ho5, HYT.out.tq.by hg5 (fun r hr => by have := hn r hr; omega), Gr.by HYT.out.gr hg5 (fun r hr => by have := hn r hr; omega), h1, h2, Nat.le_trans HYT.out.sz hg5.size⟩)
      clear ho5 hg5 hb5
      go_wp2_with fail
      go_roundw
      case rel => exact ⟨j, _, _, _, _, rfl, by first | rfl | go_num, by simp; omega, by omega, HI5.out⟩
      case measure => simp [intOf]; try omega
    · obtain rfl : j = 0 := by omega
      obtain ⟨ac, cc', e0, hlc, hcm, -⟩ := HX.out.own.cw.open3
      obtain ⟨e1, e2, e3⟩ : oc = ac ∧ lc = D.length ∧ cc = cc' := by simpa using e0
      subst e1 e3
      have hl42 : lc ≤ 42 := by omega
      have HLC := Lib.hid e2
      clear e0 e2 hcm
      by_cases h1 : 1 < lc
      · obtain ⟨gb, hoc, hgb, cur, HB, htk⟩ := HX.out.own.opn (by have := HLC.out; omega)
        subst hoc
        have HN1 := Lib.hid (Next_q (n := n + 1) (HX.out.tq.less (by omega)) lc (by omega) (by omega))
        go_wp2_with fail
        refine HN1.out.mono ?_
        rintro e w4 ⟨⟨i, hi, rfl⟩, hq4, hg4⟩
        have HI4 := Lib.hid (HX.out.draw hg4 hq4)
        have HN2 := Lib.hid (Next_q (n := n) HI4.out.tq lc (by omega) (by omega))
        clear hq4 hg4 HN1
        go_wp2_with fail
        refine HN2.out.mono ?_
        rintro e w5 ⟨⟨k, hk, rfl⟩, hq5, hg5⟩
        have HI5 := Lib.hid (HI4.out.draw hg5 hq5)
        clear hq5 hg5 HN2 HI4
        obtain ⟨x, hx⟩ : ∃ x, D[i]? = some x := ⟨_, List.getElem?_eq_getElem (by have := HLC.out; omega)⟩
        obtain ⟨y, hy⟩ : ∃ y, D[k]? = some y := ⟨_, List.getElem?_eq_getElem (by have := HLC.out; omega)⟩
        have hrow := HI5.out.own.rowC
        obtain ⟨x0, x1, x2, x3⟩ := hrow.1 i x hx
        obtain ⟨y0, y1, y2, y3⟩ := hrow.1 k y hy
        obtain ⟨fx0, fx1, fx2, fx3⟩ := hrow.2 i
        obtain ⟨fy0, fy1, fy2, fy3⟩ := hrow.2 k
        by_cases hik : i = k
        · subst hik
          obtain rfl : x = y := Option.some.inj (hx.symm.trans hy)
          go_wp2_with fail
          go_region
          all_goals
            go_wp2_with fail
            rw [HQ.out]
            exact (HI5.out.less (by omega)).swap hx hx (by omega)
        · go_wp2_with fail
          go_region
          all_goals
            go_wp2_with fail
            rw [HQ.out]
            exact (HI5.out.less (by omega)).swap hx hy (by omega)
      · go_wp2_with fail
        rw [HQ.out]
        exact ⟨_, D, rfl, HX.out.own.cw, by have := HLC.out; omega, fun c hc => by have := HX.out.own.newer c hc; have := HX.out.low; omega, HX.out.tq.less (by omega), HX.out.gr⟩
end By
end Go.Proofs.YtfobogcccbddbaaGreatDoor
