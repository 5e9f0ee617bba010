/- The law's own stores: drawn from the tape. Condition: the tape has 40 draws left. -/
import Derived.Test.YtlfoikjbbbhbdaaMCj
import Derived.Test.YtlfoikjbbbhbdaaMk
namespace Go.Proofs.Ytlfoikjbbbhbdaa
namespace By
open Go.RowKit WireN CtN
set_option linter.unusedVariables false
set_option linter.unusedSimpArgs false

theorem Text_q {w0 w : World} {g n : Nat} (k : Nat) (ht : Tq w0 w g (n + k + 1)) :
    Calls Try.prog 34 #[.pointer (some ⟨g, 0, none⟩), .int .i64 k, .string ⟨#[97, 98, 61]⟩] w fun e w' => (∃ xs : List Nat, xs.length = k ∧ Lt xs ∧ e = .returned (.string (st xs))) ∧ Tq w0 w' g n ∧ Gr g w w' := by
  obtain ⟨a, h1, h2⟩ := ht
  refine (TText_any h2 k (by omega) ⟨#[97, 98, 61]⟩ (by decide) (by decide)).mono ?_
  rintro e w' ⟨h3, h4, h5⟩
  exact ⟨h3, ⟨a + k, by omega, h4⟩, h5⟩
/-- A drawn store while it is made. -/
structure DrI (w0 w wr : World) (g o n : Nat) (u : Value) (ts : List Tx) : Prop where
  tq : Tq w0 wr g n
  gr : Gr g w wr
  blk : Blk wr o 25 #[u]
  res : Blk wr w.heap.size 25 #[.slice none 0 0]
  ow : OwT w0 wr u ts
  nw : ∀ b, u.ownBlock = some b → w.heap.size + 2 ≤ b
  sm : ∀ x ∈ ts, x.length ≤ 2
theorem DrI.less {w0 w wr : World} {g o n m : Nat} {u : Value} {ts : List Tx} (h : DrI w0 w wr g o n u ts) (hm : m ≤ n) : DrI w0 w wr g o m u ts := ⟨h.tq.less hm, h.gr, h.blk, h.res, h.ow, h.nw, h.sm⟩
theorem DrI.keep {w0 w wr w' : World} {g o n : Nat} {u : Value} {ts : List Tx} (h : DrI w0 w wr g o n u ts) (hk : Kp wr w') : DrI w0 w w' g o n u ts := ⟨h.tq.keep hk, h.gr.trans (hk.gr g), h.blk.keep hk, h.res.keep hk, h.ow.keep hk, h.nw, h.sm⟩
/-- A draw: only the tape's block has changed. -/
theorem DrI.draw {w0 w wr w' : World} {g o n m : Nat} {u : Value} {ts : List Tx} (h : DrI w0 w wr g o n u ts) (hg : Gr g wr w') (hq : Tq w0 w' g m) (hgw : g < w.heap.size) (ho : o = w.heap.size + 1) : DrI w0 w w' g o m u ts := by
  refine ⟨hq, h.gr.trans hg, h.blk.by hg (fun e => by injection e with e; omega), h.res.by hg (fun e => by injection e with e; omega), h.ow.by hg (fun r hr => by injection hr with hr; have := h.tq.ge; omega) (fun b hb e => ?_), h.nw, h.sm⟩
  injection e with e
  have := h.nw b hb
  omega
/-- A text was appended and put into the store's cell. -/
theorem DrI.text {w0 w wx w6 : World} {g o n : Nat} {u v6 : Value} {ts : List Tx} {x : Tx} (h : DrI w0 w wx g o n u ts) (hgw : g < w.heap.size) (ho : o = w.heap.size + 1) (hx : x.length ≤ 2) (ho6 : OwT w0 w6 v6 (ts ++ [x])) (hg6 : wx.grownBy w6 u.ownBlock) (ha6 : v6.ownBlock = u.ownBlock ∨ v6.ownBlock = some wx.heap.size) :
    Blk w6 o 25 #[u] ∧ DrI w0 w (w6.setCell ⟨o, 0, none⟩ v6) g o n v6 (ts ++ [x]) := by
  have hnb : ∀ b, u.ownBlock = some b → b ≠ o := fun b hb e => by have := h.nw b hb; omega
  have hne : some o ≠ u.ownBlock := fun e => hnb o e.symm rfl
  have hb6 := h.blk.by hg6 hne
  have hr6 := h.res.by hg6 (fun e => by have := h.nw _ e.symm; omega)
  have hsz := h.gr.size
  have hlt := h.blk.lt
  have hgo : w6.grownBy (w6.setCell ⟨o, 0, none⟩ v6) (some o) := Only.gr ((Only.refl o w6).set 0 v6)
  have hw0 := h.tq.ge
  have hnw6 : ∀ b, v6.ownBlock = some b → w.heap.size + 2 ≤ b := fun b hb => by
    rcases ha6 with hh | hh
    · exact h.nw b (hh ▸ hb)
    · rw [hh] at hb; injection hb with hb
      omega
  have hq6 : Tq w0 w6 g n := h.tq.by hg6 (fun r hr => by have := h.nw r hr; omega)
  refine ⟨hb6, hq6.by hgo (fun r hr => by injection hr with hr; omega), ?_, hb6.set 0 v6, hr6.other ((Only.refl o w6).set 0 v6) (by omega), ho6.by hgo (fun r hr => by injection hr with hr; omega) (fun b hb e => ?_), hnw6, fun y hy => ?_⟩
  · exact Gr.by (Gr.by h.gr hg6 (fun r hr => by have := h.nw r hr; omega)) hgo (fun r hr => by injection hr with hr; omega)
  · injection e with e
    have := hnw6 b hb
    omega
  · rcases List.mem_append.1 hy with hy | hy
    · exact h.sm y hy
    · obtain rfl : y = x := by simpa using hy
      exact hx
/-- What store leaves. -/
def StoreR (w0 : World) (g n : Nat) (w : World) (e : Ending) (w' : World) : Prop :=
  ∃ u ts, e = .returned (.agg #[u]) ∧ Tw w' u ts ∧ ts.length ≤ 8 ∧ (∀ x ∈ ts, x.length ≤ 2) ∧ (∀ b, u.ownBlock = some b → w.heap.size ≤ b) ∧ Tq w0 w' g n ∧ Gr g w w'
set_option maxRecDepth 100000 in
set_option maxHeartbeats 8000000 in
theorem storeL_any {w0 w : World} {g n : Nat} (ht : Tq w0 w g (n + 41)) : Calls Try.prog 7 #[.pointer (some ⟨g, 0, none⟩)] w (StoreR w0 g n w) := by
  obtain ⟨Q, hQ⟩ : ∃ Q, Q = StoreR w0 g n w := ⟨_, rfl⟩
  rw [← hQ]
  have FIN : Hid (∀ (W' : World) (u : Value) (ts : List Tx) (A : Act), DrI w0 w W' g (w.heap.size + 1) n u ts → ts.length ≤ 8 → A.defers = [] → A.tmps.getD 2 undef = .pointer (some ⟨w.heap.size, 0, none⟩) →
      bodyPost Try.prog Try.f7 Q .ret A (W'.setCell ⟨w.heap.size, 0, none⟩ u)) := Lib.hid (by
    intro W' u ts A h hl h0 h2
    have b3 := h.res.set 0 u
    have e0 := b3.cell 0 (v := u) rfl
    have h2' : A.tmps[2]?.getD undef = .pointer (some ⟨w.heap.size, 0, none⟩) := by simpa using h2
    refine bodyPost_ret (v := .agg #[u]) (by simp [results, Try.results7, go_sem, h2', e0]) h0 ?_
    rw [hQ]
    have hgo : W'.grownBy (W'.setCell ⟨w.heap.size, 0, none⟩ u) (some w.heap.size) := Only.gr ((Only.refl _ W').set 0 u)
    have hge := h.tq.ge
    have hgw : g < w.heap.size := ht.lt
    exact ⟨u, ts, rfl, h.ow.tw.setc (fun b hb => by have := h.nw b hb; omega), hl, h.sm, fun b hb => by have := h.nw b hb; omega, h.tq.by hgo (fun r hr => by injection hr with hr; omega), Gr.by h.gr hgo (fun r hr => by injection hr with hr; omega)⟩)
  have hgw := ht.lt
  have HGW := Lib.hid hgw
  obtain ⟨W, hW⟩ : ∃ W, W = (w.alloc (.cells #[.slice none 0 0] 25)).alloc (.cells #[.slice none 0 0] 25) := ⟨_, rfl⟩
  have hk0 : Kp w W := by rw [hW]; exact Kp.alloc (kp_alloc _ _) _
  have hI0 : DrI w0 w W g (w.heap.size + 1) (n + 41) (.slice none 0 0) [] := by
    refine ⟨ht.keep hk0, hk0.gr g, ?_, ?_, (OwT.start w0).keep (ht.base.trans hk0), fun b hb => by simp [Value.ownBlock] at hb, fun x hx => by simp at hx⟩
    · have := Blk.new (w.alloc (.cells #[.slice none 0 0] 25)) 25 #[.slice none 0 0]
      rw [hW]
      simpa using this
    · rw [hW]; exact (Blk.new _ _ _).keep (kp_alloc _ _)
  have HI0 := Lib.hid hI0; have HW := Lib.hid hW
  have HNX := Lib.hid (Next_q (n := n + 40) hI0.tq 9 (by omega) (by omega))
  clear hQ hk0 hI0 hW ht hgw
  go_enter Try.func7, Try.ntmps7
  go_wp2_with fail
  rw [← HW.out]
  refine HNX.out.mono ?_
  rintro e w1 ⟨⟨r, hr, rfl⟩, hq1, hg1⟩
  have HI1 := Lib.hid (HI0.out.draw hg1 hq1 HGW.out rfl)
  have hr8 : r ≤ 8 := by omega
  clear hq1 hg1 hr
  go_wp2_with fail
  go_loopw [4] (fun i wr => ∃ (k : Nat) (u : Value) (ts : List Tx), i = .int .i64 (k : Nat) ∧ k + ts.length ≤ r ∧ DrI w0 w wr g (w.heap.size + 1) (n + 5 * k) u ts) (fun i _ => (intOf i).toNat)
  case atStart => exact ⟨r, _, [], rfl, by simp, HI1.out.less (by omega)⟩
  case round =>
    obtain ⟨k, u, ts, rfl, hk, hI⟩ := hrel
    rename World => wr
    have HI := Lib.hid hI
    obtain ⟨⟨u1, u2, u3, rfl⟩, -⟩ := row_frc hI.ow.owns
    by_cases hk0 : 0 < k
    · obtain ⟨k', rfl⟩ : ∃ k', k = k' + 1 := ⟨k - 1, by omega⟩
      have hki : (0 : Int) < ((k' + 1 : Nat) : Int) := by omega
      have HN1 := Lib.hid (Next_q (n := n + 5 * k' + 4) (hI.tq.less (by omega)) 3 (by omega) (by omega))
      clear hI hk0
      go_wp2_with fail
      refine HN1.out.mono ?_
      rintro e w2 ⟨⟨d, hd, rfl⟩, hq2, hg2⟩
      have HI2 := Lib.hid (HI.out.draw hg2 hq2 HGW.out rfl)
      have HD := Lib.hid hd
      have HT2 := Lib.hid (Text_q (n := n + 5 * k' + 1) d (hq2.less (by omega)))
      clear hq2 hg2 hd
      go_wp2_with fail
      refine HT2.out.mono ?_
      rintro e w3 ⟨⟨xs, hxl, hxt, rfl⟩, hq3, hg3⟩
      have HI3 := Lib.hid (HI2.out.draw hg3 hq3 HGW.out rfl)
      have HXO : Hid (TxOk xs) := Lib.hid ⟨hxt, by have := HD.out; omega⟩
      have HXL : Hid (xs.length ≤ 2) := Lib.hid (by have := HD.out; omega)
      have HLN : Hid (ts.length ≤ 8) := Lib.hid (by omega)
      have e3 := HI3.out.blk.cell 0 rfl
      have HH := Lib.hid (Has_t HI3.out.ow.tw (by have := HLN.out; omega) hxt)
      obtain ⟨X, hX⟩ : ∃ X, X = st xs := ⟨_, rfl⟩
      rw [← hX] at HH ⊢
      have HXX := Lib.hid hX
      clear hq3 hg3 hxl hxt hX
      by_cases hm : xs ∈ ts
      · rw [decide_eq_true hm] at HH
        have HCH := Lib.hid (Chance_q (n := n + 5 * k') HI3.out.tq 1 30 (by omega) (by omega))
        clear hm
        go_wp2_with fail
        refine HH.out.mono ?_
        rintro e w4 ⟨rfl, rfl⟩
        go_wp2_with fail
        refine HCH.out.mono ?_
        rintro e w4 ⟨⟨b, rfl⟩, hq4, hg4⟩
        have HI4 := Lib.hid (HI3.out.draw hg4 hq4 HGW.out rfl)
        have e4 := HI4.out.blk.cell 0 rfl
        clear hq4 hg4 e3
        cases b with
        | true =>
          have HI5 := Lib.hid ((HI4.out.less (m := n + 5 * k') (by omega)).keep (kp_alloc w4 (.cells #[.string X] 9)))
          have HNB : Hid (Blk (w4.alloc (.cells #[.string X] 9)) w4.heap.size 9 #[.string (st xs)]) := Lib.hid (by rw [← HXX.out]; exact Blk.new _ _ _)
          go_wp2_with (at_builtin; refine wpList_tx (w := w0) rfl (.tmp 26) (.tmp 28) rfl _ rfl HI5.out.ow (by have := HLN.out; omega) xs HXO.out w4.heap.size rfl HNB.out ?_)
          intro v6 w6 ho6 hg6 ha6
          obtain ⟨⟨x1, x2, x3, rfl⟩, -⟩ := row_frc ho6.owns
          obtain ⟨hb6, hI7⟩ := HI5.out.text HGW.out rfl HXL.out ho6 hg6 (by simpa using ha6)
          have g6 := hb6.cell 0 rfl; have g6' := hb6.free 0
          have HI7 := Lib.hid hI7
          have HL7 : Hid ((ts ++ [xs]).length = ts.length + 1) := Lib.hid (by simp)
          clear ho6 hg6 ha6 hb6 hI7
          go_wp2_with fail
          go_roundw
          case rel => exact ⟨k', _, _, by go_num, by have := HL7.out; omega, HI7.out⟩
          case measure => simp [intOf]
        | false =>
          go_wp2_with fail
          go_roundw
          case rel => exact ⟨k', _, _, by go_num, by omega, HI4.out⟩
          case measure => simp [intOf]
      · rw [decide_eq_false hm] at HH
        clear hm
        go_wp2_with fail
        refine HH.out.mono ?_
        rintro e w4 ⟨rfl, rfl⟩
        have HI5 := Lib.hid ((HI3.out.less (m := n + 5 * k') (by omega)).keep (kp_alloc w3 (.cells #[.string X] 9)))
        have HNB : Hid (Blk (w3.alloc (.cells #[.string X] 9)) w3.heap.size 9 #[.string (st xs)]) := Lib.hid (by rw [← HXX.out]; exact Blk.new _ _ _)
        go_wp2_with (at_builtin; refine wpList_tx (w := w0) rfl (.tmp 26) (.tmp 28) rfl _ rfl HI5.out.ow (by have := HLN.out; omega) xs HXO.out w3.heap.size rfl HNB.out ?_)
        intro v6 w6 ho6 hg6 ha6
        obtain ⟨⟨x1, x2, x3, rfl⟩, -⟩ := row_frc ho6.owns
        obtain ⟨hb6, hI7⟩ := HI5.out.text HGW.out rfl HXL.out ho6 hg6 (by simpa using ha6)
        have g6 := hb6.cell 0 rfl; have g6' := hb6.free 0
        have HI7 := Lib.hid hI7
        have HL7 : Hid ((ts ++ [xs]).length = ts.length + 1) := Lib.hid (by simp)
        clear ho6 hg6 ha6 hb6 hI7
        go_wp2_with fail
        go_roundw
        case rel => exact ⟨k', _, _, by go_num, by have := HL7.out; omega, HI7.out⟩
        case measure => simp [intOf]
    · obtain rfl : k = 0 := by omega
      have HF := Lib.hid (hI.less (m := n) (by omega))
      have e3 := hI.blk.cell 0 rfl
      have d3 := hI.res.cell 0 rfl; have f3 := hI.res.free 0
      have HL : Hid (ts.length ≤ 8) := Lib.hid (by omega)
      clear hI hk0 hk
      go_wp2_with fail
      exact FIN.out wr _ ts _ HF.out HL.out rfl rfl
end By
end Go.Proofs.Ytlfoikjbbbhbdaa
