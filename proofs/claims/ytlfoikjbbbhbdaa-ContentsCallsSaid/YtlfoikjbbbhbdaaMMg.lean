/- The program's Merge: its closure and its fold. Conditions: at most ninety thousand texts and numbers; the text is not too long. -/
import Derived.Test.YtlfoikjbbbhbdaaMSt
import Derived.Test.YtlfoikjbbbhbdaaMCj
namespace Go.Proofs.Ytlfoikjbbbhbdaa
namespace By
open Go.RowKit WireN CtN
set_option linter.unusedVariables false
set_option linter.unusedSimpArgs false

/-- A table whose address lies in cell q, and a row of numbers. -/
structure MgS (W wr : World) (p b : Nat) (v : Value) (q : Nat) (nv : Value) (T : List Tx) (N : List Int) : Prop where
  tb : Tb W wr p v b T
  cq : Blk wr q 64 #[.pointer (some ⟨p, 0, none⟩)]
  oj : OwJ W wr nv N
  qp : q ≠ p
  qb : q ≠ b
  vq : ∀ c, v.ownBlock = some c → c ≠ q
  np : ∀ c, nv.ownBlock = some c → c ≠ p ∧ c ≠ b ∧ c ≠ q ∧ v.ownBlock ≠ some c
theorem MgS.keep {W wr w' : World} {p b q : Nat} {v nv : Value} {T : List Tx} {N : List Int} (h : MgS W wr p b v q nv T N) (hk : Kp wr w') : MgS W w' p b v q nv T N :=
  ⟨h.tb.keep hk, h.cq.keep hk, h.oj.keep hk, h.qp, h.qb, h.vq, h.np⟩
theorem MgS.kp {W wr : World} {p b q : Nat} {v nv : Value} {T : List Tx} {N : List Int} (h : MgS W wr p b v q nv T N) : Kp W wr := h.tb.kp
theorem OwJ.same {w wr w1 : World} {v : Value} {ns : List Int} (h : OwJ w wr v ns) (hk : Kp w w1) (hs : ∀ c, v.ownBlock = some c → w1.heap[c]? = wr.heap[c]?) (hz : wr.heap.size ≤ w1.heap.size) : OwJ w w1 v ns := by
  obtain ⟨h1, h2, h3⟩ := h
  refine ⟨⟨h1.1, ?_⟩, h2, hk⟩
  rcases h1.2 with e | ⟨g, cap, cur, e1, e2, e3, e4⟩
  · exact .inl e
  · refine .inr ⟨g, cap, cur, e1, e2, ?_, e4⟩
    rw [hs g (by rw [e1]; rfl)]
    exact e3
/-- The table has taken a text. -/
theorem MgS.put {W wr w' : World} {p b q : Nat} {v nv v' : Value} {T T' : List Tx} {N : List Int} (h : MgS W wr p b v q nv T N) (ht : Tb W w' p v' b T') (hu : Turn wr w' p b v) (hv : ∀ c, v'.ownBlock = some c → v.ownBlock = some c ∨ wr.heap.size ≤ c) : MgS W w' p b v' q nv T' N := by
  have hql : q < wr.heap.size := h.cq.lt
  have hnl : ∀ c, nv.ownBlock = some c → c < wr.heap.size := fun c hc => ((row_frc h.oj.owns).2 c hc).2
  refine ⟨ht, ?_, h.oj.same ht.kp (fun c hc => ?_) hu.size, h.qp, h.qb, fun c hc e => ?_, fun c hc => ?_⟩
  · have h1 := hu.same q hql h.qp h.qb (fun e => h.vq q e rfl)
    have h2 := h.cq
    unfold Blk at h2 ⊢
    rw [h1]
    exact h2
  · obtain ⟨n1, n2, n3, n4⟩ := h.np c hc
    exact hu.same c (hnl c hc) n1 n2 n4
  · rcases hv c hc with h1 | h1
    · exact h.vq c h1 e
    · omega
  · obtain ⟨n1, n2, n3, n4⟩ := h.np c hc
    refine ⟨n1, n2, n3, fun e => ?_⟩
    rcases hv c e with h1 | h1
    · exact n4 h1
    · have := hnl c hc
      omega
/-- A number was appended. -/
theorem MgS.num {W wx w8 : World} {p b q : Nat} {v nv v8 : Value} {T : List Tx} {N M : List Int} (h : MgS W wx p b v q nv T N) (ho8 : OwJ W w8 v8 M) (hg8 : wx.grownBy w8 nv.ownBlock) (ha8 : v8.ownBlock = nv.ownBlock ∨ v8.ownBlock = some wx.heap.size) : MgS W w8 p b v q v8 T M := by
  have hu : ∀ r, nv.ownBlock = some r → W.heap.size ≤ r := h.oj.newer
  refine ⟨h.tb.by hg8 hu (fun e => (h.np _ e).1 rfl) (fun e => (h.np _ e).2.1 rfl) (fun c hc e => (h.np c e).2.2.2 hc), h.cq.by hg8 (fun e => (h.np q e.symm).2.2.1 rfl), ho8, h.qp, h.qb, h.vq, fun c hc => ?_⟩
  rcases ha8 with hh | hh
  · exact h.np c (hh ▸ hc)
  · rw [hh] at hc; injection hc with hc
    have h1 : p < wx.heap.size := h.tb.blk.lt
    have h2 : b < wx.heap.size := h.tb.nm.lt
    have h3 : q < wx.heap.size := h.cq.lt
    refine ⟨by omega, by omega, by omega, fun e => ?_⟩
    have h4 := ((row_frc h.tb.ow.owns).2 c e).2
    omega
/-- What the closure and the fold leave. -/
def FoR (W : World) (p b q : Nat) (T : List Tx) (N : List Int) (e : Ending) (w' : World) : Prop :=
  ∃ v' nv', e = .returned nv' ∧ MgS W w' p b v' q nv' T N
set_option maxRecDepth 100000 in
set_option maxHeartbeats 4000000 in
theorem clos_any {W wr : World} {p b q : Nat} {v nv : Value} {T : List Tx} {N : List Int} (h : MgS W wr p b v q nv T N) (hT : T.length ≤ 90000) (hN : N.length ≤ 90000) {y : Tx} (hy : TxOk y) :
    Calls Try.prog 43 #[nv, .string (st y), .pointer (some ⟨q, 0, none⟩)] wr (FoR W p b q (add T y) (N ++ [((fnd y (add T y) : Nat) : Int)])) := by
  obtain ⟨Q, hQ⟩ : ∃ Q, Q = FoR W p b q (add T y) (N ++ [((fnd y (add T y) : Nat) : Int)]) := ⟨_, rfl⟩
  rw [← hQ]
  have FIN : Hid (∀ (v' nv' : Value) (w' : World), MgS W w' p b v' q nv' (add T y) (N ++ [((fnd y (add T y) : Nat) : Int)]) → Q (.returned nv') w') := Lib.hid (by
    intro v' nv' w' h1
    rw [hQ]
    exact ⟨v', nv', rfl, h1⟩)
  have HP := Lib.hid (put_any h.tb (by omega) hy)
  have c0 := h.cq.cell 0 rfl
  have HM := Lib.hid h; have HN := Lib.hid hN
  have HF : Hid (fnd y (add T y) ≤ 90001) := Lib.hid (by have h1 := fnd_le y (add T y); have h2 := (add_len T y).2; omega)
  obtain ⟨F, hF⟩ : ∃ F, F = fnd y (add T y) := ⟨_, rfl⟩
  obtain ⟨Y, hY⟩ : ∃ Y, Y = st y := ⟨_, rfl⟩
  rw [← hF] at FIN HF
  rw [← hY] at HP ⊢
  have HFF := Lib.hid hF
  obtain ⟨⟨n1, n2, n3, rfl⟩, -⟩ := row_frc h.oj.owns
  clear h hQ hT hN hF hY
  go_enter Try.func43, Try.ntmps43
  go_wp2_with fail
  refine HP.out.mono ?_
  rintro e w2 ⟨v', rfl, hT2, hU2, hV2⟩
  rw [← HFF.out]
  have HM2 := Lib.hid ((HM.out.put hT2 hU2 hV2).keep (kp_alloc w2 (.cells #[.int .i64 (F : Int)] 3)))
  have HNB : Hid (Blk (w2.alloc (.cells #[.int .i64 (F : Int)] 3)) w2.heap.size 3 #[.int .i64 (F : Int)]) := Lib.hid (Blk.new _ _ _)
  clear hT2 hU2 hV2 c0
  go_wp2_with (at_builtin; refine wpList_it (w := W) rfl (.tmp 6) (.tmp 10) rfl _ rfl HM2.out.oj (by have := HN.out; omega) (F : Int) (by have := HF.out; unfold IxOk; omega) w2.heap.size rfl HNB.out ?_)
  intro v8 w8 ho8 hg8 ha8
  have H8 := Lib.hid (HM2.out.num ho8 hg8 (by simpa using ha8))
  clear ho8 hg8 ha8
  go_wp2_with fail
  exact FIN.out _ _ _ H8.out
set_option maxRecDepth 100000 in
set_option maxHeartbeats 4000000 in
theorem fold_any {W wr : World} {p b q : Nat} {v : Value} {a bs : List Tx} {vb : Value} (h : MgS W wr p b v q (.slice none 0 0) a []) (hb : Tw W vb bs) (ha : a.length ≤ 4096) (hbl : bs.length ≤ 4096) :
    Calls Try.prog 42 #[vb, .slice none 0 0, .func (.func 43) #[] #[.pointer (some ⟨q, 0, none⟩)]] wr (FoR W p b q (mrg a bs).1 ((mrg a bs).2.map (fun (j : Nat) => (j : Int)))) := by
  obtain ⟨Q, hQ⟩ : ∃ Q, Q = FoR W p b q (mrg a bs).1 ((mrg a bs).2.map (fun (j : Nat) => (j : Int))) := ⟨_, rfl⟩
  rw [← hQ]
  have FIN : Hid (∀ (v' nv' : Value) (w' : World), MgS W w' p b v' q nv' (mrg a bs).1 ((mrg a bs).2.map (fun (j : Nat) => (j : Int))) → Q (.returned nv') w') := Lib.hid (by
    intro v' nv' w' h1
    rw [hQ]
    exact ⟨v', nv', rfl, h1⟩)
  have hin := Try.call43
  have HI0 := Lib.hid h; have HB := Lib.hid hb; have HA := Lib.hid ha
  obtain ⟨bo, bc, rfl, hbc, -, -⟩ := hb.open3
  obtain ⟨m, hm⟩ : ∃ m, m = bs.length := ⟨_, rfl⟩
  rw [← hm] at HB hbc hbl ⊢
  have HM := Lib.hid hm
  have i2 : (m : Int) ≤ (bc : Int) := by omega
  have i4 : (m : Int) ≤ 4096 := by omega
  clear h hb ha hm hbc hQ
  go_enter Try.func42, Try.ntmps42
  go_wp2_with fail
  go_loopw [7, 13] (fun nw i wr => ∃ (k : Nat) (v nv : Value), i = .int .i64 (k : Nat) ∧ nw = nv ∧ k ≤ m ∧ MgS W wr p b v q nv (mrg a (bs.take k)).1 ((mrg a (bs.take k)).2.map (fun (j : Nat) => (j : Int)))) (fun _ i _ => m - (intOf i).toNat)
  case atStart => exact ⟨0, _, _, rfl, rfl, Nat.zero_le _, HI0.out⟩
  case round =>
    obtain ⟨k, v, nv, rfl, rfl, hk, hI⟩ := hrel
    rename World => wr
    have HI := Lib.hid hI
    by_cases hlt : k < m
    · obtain ⟨y, hy⟩ : ∃ y, bs[k]? = some y := ⟨_, List.getElem?_eq_getElem (by have := HM.out; omega)⟩
      have hyo : TxOk y := HB.out.ok y (List.mem_of_getElem? hy)
      obtain ⟨bb, bf, rfl, hcell⟩ := (HB.out.keep hI.kp).cell (by omega)
      have d0 := hcell k y hy
      have j1 : (k : Int) < (m : Int) := by omega
      obtain ⟨hT, hNs⟩ := mrg_step (a := a) hy
      have hlen : (mrg a (bs.take k)).1.length ≤ 90000 := by
        have := (mrg_len (bs.take k) a).2.2
        rw [List.length_take] at this
        have := HA.out
        omega
      have hnl : ((mrg a (bs.take k)).2.map (fun (j : Nat) => (j : Int))).length ≤ 90000 := by
        have := (mrg_len (bs.take k) a).1
        rw [List.length_take] at this
        rw [List.length_map, this]
        omega
      have HC := Lib.hid (clos_any hI hlen hnl hyo)
      rw [← hNs, ← hT] at HC
      obtain ⟨Y, hY⟩ : ∃ Y, Y = st y := ⟨_, rfl⟩
      rw [← hY] at d0 HC
      clear hI hyo hcell hT hNs hlen hnl hY hk hy
      go_wp2_with fail
      refine HC.out.mono ?_
      rintro e w4 ⟨v', nv', rfl, h4⟩
      have H4 := Lib.hid h4
      clear h4 d0
      go_wp2_with fail
      go_roundw
      case rel => exact ⟨k + 1, _, _, by go_num, rfl, by omega, H4.out⟩
      case measure => simp [intOf]; omega
    · obtain rfl : k = m := by omega
      have htk : bs.take k = bs := List.take_of_length_le (by have := HM.out; omega)
      rw [htk] at HI
      clear htk hI hlt hk
      go_wp2_with fail
      exact FIN.out _ _ _ HI.out
end By
end Go.Proofs.Ytlfoikjbbbhbdaa

/- The program's Merge. No condition. -/
namespace Go.Proofs.Ytlfoikjbbbhbdaa
namespace By
open Go.RowKit WireN CtN
set_option linter.unusedVariables false
set_option linter.unusedSimpArgs false

set_option maxRecDepth 100000 in
set_option maxHeartbeats 8000000 in
theorem merge_any {w : World} {va vb : Value} {a b : List Tx} (ha : Tw w va a) (hb : Tw w vb b) :
    Calls Try.prog 22 #[.agg #[va], .agg #[vb]] w (MergeR a b w) := by
  obtain ⟨Q, hQ⟩ : ∃ Q, Q = MergeR a b w := ⟨_, rfl⟩
  rw [← hQ]
  obtain ⟨W, hW⟩ : ∃ W, W = ((w.alloc (.cells #[va] 25)).alloc (.cells #[vb] 25)).alloc (.cells #[.slice none 0 0] 25) := ⟨_, rfl⟩
  have hk0 : Kp w W := by rw [hW]; exact Kp.alloc (Kp.alloc (kp_alloc _ _) _) _
  have b1 : Blk W w.heap.size 25 #[va] := by rw [hW]; exact ((Blk.new _ _ _).keep (kp_alloc _ _)).keep (kp_alloc _ _)
  have b2 : Blk W (w.heap.size + 1) 25 #[vb] := by
    have := (Blk.new (w.alloc (.cells #[va] 25)) 25 #[vb]).keep (kp_alloc _ (.cells #[.slice none 0 0] 25))
    rw [hW]
    simpa using this
  have b3 : Blk W (w.heap.size + 1 + 1) 25 #[.slice none 0 0] := by
    have := Blk.new ((w.alloc (.cells #[va] 25)).alloc (.cells #[vb] 25)) 25 #[.slice none 0 0]
    rw [hW]
    simpa using this
  have hsz : W.heap.size = w.heap.size + 3 := by rw [hW]; simp
  have FIN : Hid (∀ (W' W2 : World) (u0 u nv : Value) (E : Nat) (A : Act), W2 = W'.setCell ⟨w.heap.size + 1 + 1, 0, none⟩ u → Blk W' (w.heap.size + 1 + 1) 25 #[u0] → Kp w W' → A.defers = [] → A.tmps.getD 4 undef = .pointer (some ⟨w.heap.size + 1 + 1, 0, none⟩) → A.tmps.getD 5 undef = nv → A.tmps.getD 6 undef = .int .i64 (E : Nat) → Tw W' u (mgL a b) → (∀ c, u.ownBlock = some c → w.heap.size + 3 ≤ c) → Jw W' nv (mgN a b) → (∀ c, nv.ownBlock = some c → w.heap.size + 3 ≤ c) → E = mgE a b →
      bodyPost Try.prog Try.f22 Q .ret A W2) := Lib.hid (by
    intro W' W2 u0 u nv E A hw2 hb hk h0 h4 h5 h6 hT hu hJ hv hE
    subst hw2
    have b3 := hb.set 0 u
    have e0 := b3.cell 0 (v := u) rfl
    have h4' : A.tmps[4]?.getD undef = .pointer (some ⟨w.heap.size + 1 + 1, 0, none⟩) := by simpa using h4
    have h5' : A.tmps[5]?.getD undef = nv := by simpa using h5
    have h6' : A.tmps[6]?.getD undef = .int .i64 (E : Nat) := by simpa using h6
    refine bodyPost_ret (v := .tuple #[.agg #[u], nv, .int .i64 (E : Nat)]) (by simp [results, Try.results22, go_sem, h4', h5', h6', e0]) h0 ?_
    rw [hQ]
    exact ⟨u, nv, by rw [hE], hT.setc (fun b hb2 => by have := hu b hb2; omega), hJ.setc (fun b hb2 => by have := hv b hb2; omega), fun b hb2 => by have := hu b hb2; omega, fun b hb2 => by have := hv b hb2; omega, Only.kp hk ((Only.refl (w.heap.size + 1 + 1) W').set 0 _) (by omega)⟩)
  have BAD : Hid (∀ (W' : World) (E : Nat) (A : Act), Blk W' (w.heap.size + 1 + 1) 25 #[.slice none 0 0] → Kp w W' → A.defers = [] → A.tmps.getD 4 undef = .pointer (some ⟨w.heap.size + 1 + 1, 0, none⟩) → A.tmps.getD 5 undef = .slice none 0 0 → A.tmps.getD 6 undef = .int .i64 (E : Nat) → E ≠ 0 → E = mgE a b →
      bodyPost Try.prog Try.f22 Q .ret A W' ∧ bodyPost Try.prog Try.f22 Q .ret A (W'.setCell ⟨w.heap.size + 1 + 1, 0, none⟩ (.slice none 0 0))) := Lib.hid (by
    intro W' E A hb hk h0 h4 h5 h6 hne hE
    have hno := mgL_no (a := a) (b := b) (by rw [← hE]; exact hne)
    have h := FIN.out W' _ _ (.slice none 0 0) (.slice none 0 0) E A rfl hb hk h0 h4 h5 h6 (by rw [hno.1]; exact Tw.nil _) (fun c hc => by simp [Value.ownBlock] at hc) (by rw [hno.2]; exact Jw.nil _) (fun c hc => by simp [Value.ownBlock] at hc) hE
    refine ⟨?_, h⟩
    rw [hb.selfT (i := 0) (v := .slice none 0 0) rfl] at h
    exact h)
  have HCA := Lib.hid (tableOf_any (ha.keep hk0))
  have HCB : Hid (∀ w1 : World, Kp W w1 → Calls Try.prog 9 #[.agg #[vb]] w1 fun e w' => e = .returned (.int .i64 (err b : Nat)) ∧ Kp w1 w') := Lib.hid (fun w1 hk => check_any (hb.keep (hk0.trans hk)))
  have HW := Lib.hid hW; have HK := Lib.hid hk0; have HB1 := Lib.hid b1; have HB2 := Lib.hid b2; have HB3 := Lib.hid b3; have HB := Lib.hid (hb.keep hk0); have HSZ := Lib.hid hsz
  have c0 := b1.cell 0 rfl
  obtain ⟨E2, hE2⟩ : ∃ E, E = err b := ⟨_, rfl⟩
  have HE2 := Lib.hid hE2
  rw [← hE2] at HCB
  obtain ⟨ao, ac, rfl, -, -, -⟩ := ha.open3
  obtain ⟨bo, bc, rfl, -, -, -⟩ := hb.open3
  obtain ⟨n, hn⟩ : ∃ n, n = a.length := ⟨_, rfl⟩
  obtain ⟨m, hm⟩ : ∃ m, m = b.length := ⟨_, rfl⟩
  rw [← hn] at HW HB1 HCA c0 ⊢
  rw [← hm] at HW HB2 HB HCB ⊢
  have HM := Lib.hid hm
  clear ha hb hk0 b1 b2 b3 hW hE2 hn hm hQ hsz
  go_enter Try.func22, Try.ntmps22
  go_wp2_with fail
  rw [← HW.out]
  refine HCA.out.mono ?_
  rintro e w1 ⟨hk1, h⟩
  have HK1 := Lib.hid hk1
  clear hk1 c0
  rcases h with ⟨h0, rfl⟩ | ⟨h0, p, t, v, rfl, hT⟩
  · have F : Hid (err a = mgE a b) := Lib.hid (by rw [mgE, if_pos h0])
    obtain ⟨E, hE⟩ : ∃ E, E = err a := ⟨_, rfl⟩
    rw [← hE] at h0 F ⊢
    have q : ((E : Int) != 0) = true := by simp; omega
    have H0 := Lib.hid h0
    have hb4 := (HB3.out.keep HK1.out).keep (kp_alloc w1 (.cells #[.pointer none] 64))
    have HB4 := Lib.hid hb4
    have HK4 := Lib.hid ((HK.out.trans HK1.out).trans (kp_alloc w1 (.cells #[.pointer none] 64)))
    have f4 := hb4.free 0; have d4 := hb4.cell 0 rfl
    clear hE h0 hb4
    go_wp2_with fail
    first
    | exact (BAD.out _ E _ HB4.out HK4.out rfl rfl rfl rfl H0.out F.out).1
    | exact (BAD.out _ E _ HB4.out HK4.out rfl rfl rfl rfl H0.out F.out).2
  · have hl := (err_ok.1 h0).1
    have hM1 : MgS W (w1.alloc (.cells #[.pointer (some ⟨p, 0, none⟩)] 64)) p v t w1.heap.size (.slice none 0 0) a [] := by
      have h1 : p < w1.heap.size := hT.blk.lt
      have h2 : v < w1.heap.size := hT.nm.lt
      refine ⟨hT.keep (kp_alloc _ _), Blk.new _ _ _, (OwJ.start W).keep (HK1.out.trans (kp_alloc _ _)), by omega, by omega, fun c hc => ?_, fun c hc => by simp [Value.ownBlock] at hc⟩
      have := ((row_frc hT.ow.owns).2 c hc).2
      omega
    obtain ⟨w2, hw2⟩ : ∃ W, W = w1.alloc (.cells #[.pointer (some ⟨p, 0, none⟩)] 64) := ⟨_, rfl⟩
    have hk2 : Kp w1 w2 := by rw [hw2]; exact kp_alloc _ _
    obtain ⟨q, hq⟩ : ∃ q, q = w1.heap.size := ⟨_, rfl⟩
    rw [← hw2, ← hq] at hM1
    have c1 := ((HB2.out.keep HK1.out).keep hk2).cell 0 rfl
    rw [hw2] at c1
    have HM1 := Lib.hid hM1; have HW2 := Lib.hid hw2; have HQ := Lib.hid hq; have HL := Lib.hid hl
    have HK2 := Lib.hid (HK1.out.trans hk2)
    have H0 := Lib.hid h0
    clear hT hM1 hw2 hq hl h0 hk2
    go_wp2_with fail
    rw [← HW2.out, ← HQ.out]
    refine (HCB.out _ HK2.out).mono ?_
    rintro e w3 ⟨rfl, hk3⟩
    have HK3 := Lib.hid (HK2.out.trans hk3)
    have HM3 := Lib.hid (HM1.out.keep hk3)
    clear hk3 c1
    by_cases he2 : E2 = 0
    · have q2 : ((E2 : Int) != 0) = false := by simp [he2]
      have HZ2 : Hid (err b = 0) := Lib.hid (HE2.out ▸ he2)
      have c3 := (HB2.out.keep HK3.out).cell 0 rfl
      have HF := Lib.hid (fold_any HM3.out HB.out HL.out (err_ok.1 HZ2.out).1)
      clear he2
      go_wp2_with fail
      refine HF.out.mono ?_
      rintro e w4 ⟨t', nv', rfl, hM4⟩
      have HM4 := Lib.hid hM4
      have c4 := hM4.cq.cell 0 rfl
      have HS := Lib.hid (store_any hM4.tb)
      obtain ⟨⟨y1, y2, y3, rfl⟩, -⟩ := row_frc hM4.oj.owns
      clear hM4 c3
      go_wp2_with fail
      refine HS.out.mono ?_
      rintro e w5 ⟨u, rfl, hu, hnw, hk5⟩
      have HMG : Hid (mgE a b = if 4096 < (mrg a b).1.length then 2 else 0) := Lib.hid (by rw [mgE, if_neg (by simp [H0.out]), if_neg (by simp [HZ2.out])])
      have hk6 : Kp W w5 := HM4.out.kp.trans hk5
      by_cases hbig : 4096 < (mrg a b).1.length
      · have F : Hid (2 = mgE a b) := Lib.hid (by rw [HMG.out, if_pos hbig])
        rw [show stE (mrg a b).1 = 2 from if_pos hbig]
        obtain ⟨x1, x3, rfl, -⟩ := hu.open3
        rw [show stL (mrg a b).1 = [] from if_pos hbig] at hu hnw ⊢
        simp only [List.length_nil] at hu hnw ⊢
        have hb4 := (HB3.out.keep hk6).keep (kp_alloc w5 (.cells #[.slice x1 0 x3] 25))
        have HB4 := Lib.hid hb4
        have HK4 := Lib.hid ((HK.out.trans hk6).trans (kp_alloc w5 (.cells #[.slice x1 0 x3] 25)))
        have f4 := hb4.free 0; have d4 := hb4.cell 0 rfl
        clear hbig hu hnw hk5 hk6 hb4 c4
        go_wp2_with fail
        first
        | exact (BAD.out _ 2 _ HB4.out HK4.out rfl rfl rfl rfl (by decide) F.out).1
        | exact (BAD.out _ 2 _ HB4.out HK4.out rfl rfl rfl rfl (by decide) F.out).2
      · have F : Hid (mgE a b = 0) := Lib.hid (by rw [HMG.out, if_neg hbig])
        rw [show stE (mrg a b).1 = 0 from if_neg hbig]
        rw [show stL (mrg a b).1 = (mrg a b).1 from if_neg hbig] at hu
        obtain ⟨x1, x3, rfl, -⟩ := hu.open3
        obtain ⟨x2, hx2⟩ : ∃ x2, x2 = (mrg a b).1.length := ⟨_, rfl⟩
        rw [← hx2] at hu hnw ⊢
        have hb4 := (HB3.out.keep hk6).keep (kp_alloc w5 (.cells #[.slice x1 x2 x3] 25))
        have HB4 := Lib.hid hb4
        have HK4 := Lib.hid ((HK.out.trans hk6).trans (kp_alloc w5 (.cells #[.slice x1 x2 x3] 25)))
        have f4 := hb4.free 0; have d4 := hb4.cell 0 rfl
        have e4 := (Blk.new w5 25 #[.slice x1 x2 x3]).cell 0 rfl
        have HU := Lib.hid (hu.keep (kp_alloc w5 (.cells #[.slice x1 x2 x3] 25)))
        have HNW : Hid (∀ b, (Value.slice x1 x2 x3).ownBlock = some b → w.heap.size + 3 ≤ b) := Lib.hid (fun b hb => by have h1 := hnw b hb; have h2 := HM4.out.kp.size; have h3 := HSZ.out; omega)
        have HJ := Lib.hid (HM4.out.oj.jw.keep (hk5.trans (kp_alloc w5 (.cells #[.slice x1 x2 x3] 25))))
        have HJN : Hid (∀ c, (Value.slice y1 y2 y3).ownBlock = some c → w.heap.size + 3 ≤ c) := Lib.hid (fun c hc => by have h1 := HM4.out.oj.newer c hc; have h3 := HSZ.out; omega)
        clear hbig hu hnw hk5 hk6 hb4 hx2 c4
        go_wp2_with fail
        exact FIN.out _ _ _ (.slice x1 x2 x3) (.slice y1 y2 y3) 0 _ rfl HB4.out HK4.out rfl rfl rfl rfl (by rw [(mgL_ok F.out).1]; exact HU.out) HNW.out (by rw [(mgL_ok F.out).2]; exact HJ.out) HJN.out F.out.symm
    · have q2 : ((E2 : Int) != 0) = true := by simp; omega
      have HNZ := Lib.hid he2
      have F : Hid (E2 = mgE a b) := Lib.hid (by rw [mgE, if_neg (by simp [H0.out]), if_pos (by rw [← HE2.out]; exact he2)]; exact HE2.out)
      have hb4 := HB3.out.keep HK3.out
      have HB4 := Lib.hid hb4
      have f4 := hb4.free 0; have d4 := hb4.cell 0 rfl
      clear he2 hb4
      go_wp2_with fail
      first
      | exact (BAD.out _ E2 _ HB4.out (HK.out.trans HK3.out) rfl rfl rfl rfl HNZ.out F.out).1
      | exact (BAD.out _ E2 _ HB4.out (HK.out.trans HK3.out) rfl rfl rfl rfl HNZ.out F.out).2
end By
end Go.Proofs.Ytlfoikjbbbhbdaa
