/- The program's table of texts: its put. Conditions: at most a hundred thousand texts; the text is not too long. -/
import Derived.Test.YtlfoikjbbbhbdaaCtNm
import Derived.Test.YtlfoikjbbbhbdaaCtH
namespace Go.Proofs.Ytlfoikjbbbhbdaa
namespace By
open Go.RowKit WireN CtN
set_option linter.unusedVariables false
set_option linter.unusedSimpArgs false

/-- A table of the call's own, in block p: its texts, and the map of their numbers in block b. -/
structure Tb (W w : World) (p : Nat) (v : Value) (b : Nat) (ts : List Tx) : Prop where
  blk : Blk w p 69 #[v, .map (some b)]
  ow : OwT W w v ts
  nm : NM w b ts
  pw : W.heap.size ≤ p
  bw : W.heap.size ≤ b
  pb : p ≠ b
  vp : ∀ c, v.ownBlock = some c → c ≠ p
  vb : ∀ c, v.ownBlock = some c → c ≠ b
theorem Tb.kp {W w : World} {p b : Nat} {v : Value} {ts : List Tx} (h : Tb W w p v b ts) : Kp W w := h.ow.kp
theorem Tb.keep {W w w' : World} {p b : Nat} {v : Value} {ts : List Tx} (h : Tb W w p v b ts) (hk : Kp w w') : Tb W w' p v b ts :=
  ⟨h.blk.keep hk, h.ow.keep hk, h.nm.keep hk, h.pw, h.bw, h.pb, h.vp, h.vb⟩
theorem Tb.base {W0 W w : World} {p b : Nat} {v : Value} {ts : List Tx} (h : Tb W w p v b ts) (hk : Kp W0 W) : Tb W0 w p v b ts :=
  ⟨h.blk, h.ow.base hk, h.nm, Nat.le_trans hk.size h.pw, Nat.le_trans hk.size h.bw, h.pb, h.vp, h.vb⟩
/-- Another row of the call's own has changed. -/
theorem Tb.by {W w w' : World} {p b : Nat} {v : Value} {ts : List Tx} {row : Option Nat} (h : Tb W w p v b ts) (hg : w.grownBy w' row) (hr : ∀ r, row = some r → W.heap.size ≤ r)
    (h1 : row ≠ some p) (h2 : row ≠ some b) (h3 : ∀ c, v.ownBlock = some c → row ≠ some c) : Tb W w' p v b ts :=
  ⟨h.blk.by hg (fun e => h1 e.symm), h.ow.by hg hr h3, h.nm.by hg (fun e => h2 e.symm), h.pw, h.bw, h.pb, h.vp, h.vb⟩
/-- Nothing but the table has changed. -/
structure Turn (w w' : World) (p b : Nat) (v : Value) : Prop where
  size : w.heap.size ≤ w'.heap.size
  same : ∀ i, i < w.heap.size → i ≠ p → i ≠ b → v.ownBlock ≠ some i → w'.heap[i]? = w.heap[i]?
theorem Turn.refl (w : World) (p b : Nat) (v : Value) : Turn w w p b v := ⟨Nat.le_refl _, fun _ _ _ _ _ => rfl⟩
/-- What put leaves. -/
def PutT (W : World) (p b : Nat) (v : Value) (ts : List Tx) (x : Tx) (wr : World) (e : Ending) (w' : World) : Prop :=
  ∃ v', e = .returned (.int .i64 (fnd x (add ts x) : Nat)) ∧ Tb W w' p v' b (add ts x) ∧ Turn wr w' p b v ∧ ∀ c, v'.ownBlock = some c → v.ownBlock = some c ∨ wr.heap.size ≤ c
set_option maxRecDepth 100000 in
set_option maxHeartbeats 4000000 in
theorem put_any {W wr : World} {p b : Nat} {v : Value} {ts : List Tx} (h : Tb W wr p v b ts) (hn : ts.length ≤ 100000) {x : Tx} (hx : TxOk x) :
    Calls Try.prog 38 #[.pointer (some ⟨p, 0, none⟩), .string (st x)] wr (PutT W p b v ts x wr) := by
  obtain ⟨Q, hQ⟩ : ∃ Q, Q = PutT W p b v ts x wr := ⟨_, rfl⟩
  rw [← hQ]
  have FIN : Hid (∀ (n : Nat) (v' : Value) (w' : World), n = fnd x (add ts x) → Tb W w' p v' b (add ts x) → Turn wr w' p b v → (∀ c, v'.ownBlock = some c → v.ownBlock = some c ∨ wr.heap.size ≤ c) → Q (.returned (.int .i64 (n : Nat))) w') := Lib.hid (by
    intro n v' w' h1 h2 h3 h4
    rw [hQ]
    exact ⟨v', by rw [h1], h2, h3, h4⟩)
  have c0 := h.blk.cell 0 rfl
  have c1 := h.blk.cell 1 rfl
  have f0 := h.blk.free 0
  have q := h.nm.get hx
  have HT := Lib.hid h; have HN := Lib.hid hn; have HX := Lib.hid hx
  obtain ⟨⟨ua, ul, uc, rfl⟩, -⟩ := row_frc h.ow.owns
  have hul := h.ow.tw.len
  have HUL := Lib.hid hul
  obtain ⟨X, hX⟩ : ∃ X, X = st x := ⟨_, rfl⟩
  rw [← hX] at q ⊢
  have HXX := Lib.hid hX
  clear h hQ hX
  by_cases hm : x ∈ ts
  · have F : Hid (add ts x = ts ∧ mNum x ts = fnd x ts) := Lib.hid ⟨add_in hm, if_pos hm⟩
    rw [decide_eq_true hm, F.out.2] at q
    obtain ⟨k, hk⟩ : ∃ k, k = fnd x ts := ⟨_, rfl⟩
    rw [← hk] at q
    have HK := Lib.hid hk
    clear hm hk hx hn hul
    go_enter Try.func38, Try.ntmps38
    go_wp2_with fail
    exact FIN.out k _ _ (by rw [F.out.1]; exact HK.out) (by rw [F.out.1]; exact HT.out) (Turn.refl _ _ _ _) (fun c hc => .inl hc)
  · have F : Hid (add ts x = ts ++ [x] ∧ fnd x (ts ++ [x]) = ul) := Lib.hid ⟨add_new hm, by rw [fnd_snoc hm, hul]⟩
    have HM := Lib.hid hm
    rw [decide_eq_false hm] at q
    have i1 : (ul : Int) ≤ 100000 := by omega
    have HNB : Hid (Blk (wr.alloc (.cells #[.string X] 9)) wr.heap.size 9 #[.string (st x)]) := Lib.hid (by rw [← HXX.out]; exact Blk.new _ _ _)
    have HT1 := Lib.hid (HT.out.keep (kp_alloc wr (.cells #[.string X] 9)))
    have d0 := HT1.out.blk.cell 0 rfl
    have d1 := HT1.out.blk.cell 1 rfl
    clear hm hx hn hul
    go_enter Try.func38, Try.ntmps38
    go_wp2_with (at_builtin; refine wpList_tx (w := W) rfl (.tmp 27) (.tmp 29) rfl _ rfl HT1.out.ow (by have := HN.out; omega) x HX.out wr.heap.size rfl HNB.out ?_)
    intro v2 w2 ho2 hg2 ha2
    obtain ⟨⟨va, vl, vc, rfl⟩, hv2⟩ := row_frc ho2.owns
    have hpl : p < wr.heap.size := HT.out.blk.lt
    have hbl : b < wr.heap.size := HT.out.nm.lt
    have hb2 := HT1.out.blk.by hg2 (fun e => HT.out.vp _ e.symm rfl)
    have hn2 := HT1.out.nm.by hg2 (fun e => HT.out.vb _ e.symm rfl)
    have hsz : (wr.alloc (.cells #[.string X] 9)).heap.size = wr.heap.size + 1 := by simp
    have hvp : ∀ c, (Value.slice va vl vc).ownBlock = some c → c ≠ p := fun c hc => by
      rcases ha2 with e | e
      · exact HT.out.vp c (e ▸ hc)
      · rw [e] at hc; injection hc with hc; omega
    have hvb : ∀ c, (Value.slice va vl vc).ownBlock = some c → c ≠ b := fun c hc => by
      rcases ha2 with e | e
      · exact HT.out.vb c (e ▸ hc)
      · rw [e] at hc; injection hc with hc; omega
    have hvn : ∀ c, (Value.slice va vl vc).ownBlock = some c → (Value.slice ua ul uc).ownBlock = some c ∨ wr.heap.size ≤ c := fun c hc => by
      rcases ha2 with e | e
      · exact .inl (e ▸ hc)
      · rw [e] at hc; injection hc with hc; exact .inr (by omega)
    obtain ⟨W3, hW3⟩ : ∃ W3, W3 = w2.setCell ⟨p, 0, none⟩ (.slice va vl vc) := ⟨_, rfl⟩
    have hg3 : w2.grownBy W3 (some p) := by rw [hW3]; exact Only.gr ((Only.refl p w2).set 0 _)
    have hb3 : Blk W3 p 69 #[.slice va vl vc, .map (some b)] := by rw [hW3]; exact hb2.set 0 _
    have hn3 : NM W3 b ts := hn2.by hg3 (fun e => HT.out.pb (Option.some.inj e).symm)
    have ho3 : OwT W W3 (.slice va vl vc) (ts ++ [x]) := ho2.by hg3 (fun r hr => by injection hr with hr; rw [← hr]; exact HT.out.pw) (fun c hc e => hvp c hc (Option.some.inj e).symm)
    have e2 := hb2.cell 0 rfl; have g2 := hb2.free 0
    have e3 : (w2.setCell ⟨p, 0, none⟩ (.slice va vl vc)).cell? ⟨p, 1, none⟩ = some (.map (some b)) := by rw [← hW3]; exact hb3.cell 1 rfl
    have HW3 := Lib.hid hW3; have HN3 := Lib.hid hn3
    have FT : Hid (∀ w4, NM w4 b (ts ++ [x]) → W3.grownBy w4 (some b) → Tb W w4 p (.slice va vl vc) b (ts ++ [x]) ∧ Turn wr w4 p b (.slice ua ul uc)) := Lib.hid (by
      intro w4 hn4 hg4
      refine ⟨⟨hb3.by hg4 (fun e => HT.out.pb (Option.some.inj e)), ho3.by hg4 (fun r hr => by injection hr with hr; rw [← hr]; exact HT.out.bw) (fun c hc e => hvb c hc (Option.some.inj e).symm), hn4, HT.out.pw, HT.out.bw, HT.out.pb, hvp, hvb⟩, ?_, ?_⟩
      · have h1 := hg2.size; have h2 := hg3.size; have h3 := hg4.size
        omega
      · intro i hi hip hib hiv
        have h1 := hg2.size; have h2 := hg3.size
        rw [hg4.block i (by omega) (fun e => hib (Option.some.inj e)), hg3.block i (by omega) (fun e => hip (Option.some.inj e)), hg2.block i (by omega) (fun e => hiv e.symm), (kp_alloc wr (.cells #[.string X] 9)).block i hi])
    have HVN := Lib.hid hvn
    clear ho2 hg2 ha2 hv2 hb2 hn2 hvp hvb hvn hW3 hg3 hb3 hn3 ho3 d0 d1 c0 c1 f0 hsz
    go_wp2_with (at_mapUpdate; (try rw [← HW3.out]); refine wpList_nm rfl (.tmp 36) (.tmp 37) (.tmp 38) rfl rfl HN3.out (by have := HN.out; omega) x HX.out HM.out (by rw [← HXX.out]; rfl) (by rw [← HUL.out]; rfl) ?_)
    intro w4 hn4 hg4
    have H4 := Lib.hid (FT.out w4 hn4 hg4)
    clear hn4 hg4
    go_wp2_with fail
    exact FIN.out ul _ _ (by rw [F.out.1]; exact F.out.2.symm) (by rw [F.out.1]; exact H4.out.1) H4.out.2 HVN.out
end By
end Go.Proofs.Ytlfoikjbbbhbdaa
