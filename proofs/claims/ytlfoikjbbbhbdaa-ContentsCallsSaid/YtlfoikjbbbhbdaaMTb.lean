/- A map from texts to their numbers, of the call's own. No condition. -/
import Derived.Test.YtlfoikjbbbhbdaaCtM
import Derived.Carry
import Derived.Maps.Own
import Derived.Maps.OwnSet
import Derived.Maps.Views
import Derived.Test.YtlfoikjbbbhbdaaMCe
import Derived.Test.YtlfoikjbbbhbdaaShelf
namespace Go.Proofs.Ytlfoikjbbbhbdaa
namespace By
open Go.RowKit WireN CtN
set_option linter.unusedVariables false
set_option linter.unusedSimpArgs false

theorem fnd_at_app {x : Tx} {l r : List Tx} (h : x ∈ l) : fnd x (l ++ r) = fnd x l := by
  induction l with
  | nil => simp at h
  | cons y l ih =>
    show fnd x (y :: (l ++ r)) = _
    unfold fnd
    by_cases e : y = x
    · rw [if_pos e, if_pos e]
    · rw [if_neg e, if_neg e, ih (by rcases List.mem_cons.1 h with e2 | h2; exact absurd e2.symm e; exact h2)]
/-- The number that the map has for a text. -/
def mNum (x : Tx) (ts : List Tx) : Nat := if x ∈ ts then fnd x ts else 0
/-- Block b is a map that has the numbers of these texts. -/
structure NM (w : World) (b : Nat) (ts : List Tx) : Prop where
  ex : ∃ D : DataW Unit, w.ownsMap Try.prog 9 (plainElem Try.prog 3) b ts.length D ∧ Go.Maps.IsMap D ∧
    ∀ c : Tx, Lt c → D.atKey (.string (st c).data.toList) (.lit (.int .i64 0)) = .lit (.int .i64 (mNum c ts : Nat)) ∧ Go.Maps.has D (.string (st c).data.toList) = decide (c ∈ ts)
theorem NM.made (w : World) : NM (w.alloc (.map #[] 0)) w.heap.size [] :=
  ⟨.map [], World.ownsMap_made w _ _ _, ⟨[], rfl⟩, fun c _ => ⟨rfl, rfl⟩⟩
theorem NM.lt {w : World} {b : Nat} {ts : List Tx} (h : NM w b ts) : b < w.heap.size := by
  obtain ⟨D, h1, -, -⟩ := h; exact h1.lt
theorem NM.by {w w' : World} {b : Nat} {ts : List Tx} {row : Option Nat} (h : NM w b ts) (hg : w.grownBy w' row) (hne : some b ≠ row) : NM w' b ts := by
  obtain ⟨D, h1, h2, h3⟩ := h
  exact ⟨D, h1.kept hg hne, h2, h3⟩
theorem NM.keep {w w' : World} {b : Nat} {ts : List Tx} (h : NM w b ts) (hk : Kp w w') : NM w' b ts :=
  h.by (row := none) ⟨hk.os, hk.tape, hk.output, hk.size, fun i hi _ => hk.block i hi⟩ (by simp)
theorem lawT : Go.Maps.Keyed Try.prog 9 := Go.Maps.string_keyed Try.underlying9
theorem zeroN (w : World) : (zeroValue 3).run Try.prog w = .ok (.int .i64 0) w := Try.zeroValue3 w
theorem keyT {c : Tx} (hl : c.length ≤ 140737488355328) : keyOf Try.prog 9 (.string (st c)) = some (.string (st c).data.toList) :=
  WideMaps.keyOf_string_mk Try.underlying9 (by rw [st_size]; unfold maxLen; omega)
theorem st_dneT {c k : Tx} (hc : Lt c) (hk : Lt k) (h : c ≠ k) : (Lit.string (st c).data.toList) ≠ Lit.string (st k).data.toList := by
  intro e
  injection e with e
  refine h ((st_injc hc hk).1 ?_)
  have h2 : (st c).data = (st k).data := Array.toList_inj.1 e
  cases hx : st c; cases hy : st k
  rw [hx, hy] at h2
  simp at h2
  rw [h2]
theorem wfN {n : Nat} (h : n ≤ 1000000) : (Lit.int .i64 (n : Nat)).wf = true := Go.WalkArith.wf_i64 (by omega)
set_option maxRecDepth 100000 in
/-- What is found in the map. -/
theorem NM.get {w : World} {b : Nat} {ts : List Tx} (h : NM w b ts) {c : Tx} (hc : TxOk c) : (Instr.lookup 67 (.map (some b)) (.string (st c)) true).run Try.prog w = .ok (.tuple #[.int .i64 (mNum c ts : Nat), .bool (decide (c ∈ ts))]) w := by
  obtain ⟨D, h1, h2, h3⟩ := h
  obtain ⟨v, ps, hr, hv⟩ := h1.look_ok lawT Try.underlying67 (zeroN w) (plainElem_int Try.underlying3 (by decide)) (keyT hc.2)
  obtain ⟨a, rfl, hx, -⟩ := plainElem_int_inv Try.underlying3 hv
  obtain ⟨h4, h5⟩ := h3 c hc.1
  rw [h4] at hx
  simp only [Prod.mk.injEq] at hx
  have h6 := hx.1
  injection h6 with h6
  injection h6 with h7 h8
  rw [hr, h5, h8]
set_option maxRecDepth 100000 in
theorem NM.put {w : World} {b : Nat} {ts : List Tx} (h : NM w b ts) (hn : ts.length ≤ 1000000) {k : Tx} (hk : TxOk k) (hm : k ∉ ts) :
    ∃ w', (Instr.mapUpdate 67 (.map (some b)) (.string (st k)) (.int .i64 (ts.length : Nat))).run Try.prog w = .ok () w' ∧ NM w' b (ts ++ [k]) ∧ w.grownBy w' (some b) := by
  obtain ⟨D, h1, h2, h3⟩ := h
  obtain ⟨w', hr, ho, hg⟩ := h1.update lawT Try.underlying67 (by unfold maxLen; omega) (keyT hk.2) (plainElem_int (H := Unit) Try.underlying3 (wfN hn))
  refine ⟨w', hr, ⟨_, by rw [List.length_append]; exact ho, ?_, fun c hc => ?_⟩, hg⟩
  · obtain ⟨es, rfl⟩ := h2
    exact ⟨_, rfl⟩
  · by_cases hck : c = k
    · subst hck
      rw [Go.Maps.atKey_put_same h2 (by trivial), Go.Maps.has_put_same h2 (by trivial)]
      exact ⟨by rw [mNum, if_pos (by simp), fnd_snoc hm], by simp⟩
    · rw [Go.Maps.atKey_put_other (st_dneT hc hk.1 hck), Go.Maps.has_put_other (st_dneT hc hk.1 hck), (h3 c hc).1, (h3 c hc).2]
      refine ⟨?_, by simp [hck]⟩
      unfold mNum
      by_cases hin : c ∈ ts
      · rw [if_pos hin, if_pos (by simp [hin]), fnd_at_app hin]
      · rw [if_neg hin, if_neg (by simp [hin, hck])]
theorem wpList_nm {w : World} {ops : Array Oper} {rest : List Oper} {o : Oper} {a : Act} {Q : Exit → Act → World → Prop} (hg : o.guard = none) (m x v : Operand) (hop : o.op = Op.mapUpdate 67 m x v)
    {b : Nat} {ts : List Tx} (hm : a.eval m = .map (some b)) (h : NM w b ts) (hn : ts.length ≤ 1000000) (k : Tx) (hk : TxOk k) (hnew : k ∉ ts) (hx : a.eval x = .string (st k)) (hv : a.eval v = .int .i64 (ts.length : Nat))
    (hK : ∀ w', NM w' b (ts ++ [k]) → w.grownBy w' (some b) → wpList Try.prog ops Q rest (a.put o.dst undef) w') : wpList Try.prog ops Q (o :: rest) a w := by
  refine wpList_plain hg fun K' hK' => ?_
  obtain ⟨w', hrun, r1, r2⟩ := h.put hn hk hnew
  unfold Oper.wp
  simp [execOp, hop, hm, hx, hv, hrun, Result.andThen]
  exact hK' _ _ (hK w' r1 r2)
end By
end Go.Proofs.Ytlfoikjbbbhbdaa

/- The program's table of texts: its put. Conditions: at most a hundred thousand texts; the text is not too long. -/
namespace Go.Proofs.Ytlfoikjbbbhbdaa
namespace By
open Go.RowKit WireN CtN
set_option linter.unusedVariables false
set_option linter.unusedSimpArgs false

/-- A table of the call's own, in block p: its texts, and the map of their numbers in block b. -/
structure Tb (W w : World) (p : Nat) (v : Value) (b : Nat) (ts : List Tx) : Prop where
  blk : Blk w p 69 #[v, .map (some b)]
  ow : OwT W w v ts
  nm : NM w b ts
  pw : W.heap.size ≤ p
  bw : W.heap.size ≤ b
  pb : p ≠ b
  vp : ∀ c, v.ownBlock = some c → c ≠ p
  vb : ∀ c, v.ownBlock = some c → c ≠ b
theorem Tb.kp {W w : World} {p b : Nat} {v : Value} {ts : List Tx} (h : Tb W w p v b ts) : Kp W w := h.ow.kp
theorem Tb.keep {W w w' : World} {p b : Nat} {v : Value} {ts : List Tx} (h : Tb W w p v b ts) (hk : Kp w w') : Tb W w' p v b ts :=
  ⟨h.blk.keep hk, h.ow.keep hk, h.nm.keep hk, h.pw, h.bw, h.pb, h.vp, h.vb⟩
theorem Tb.base {W0 W w : World} {p b : Nat} {v : Value} {ts : List Tx} (h : Tb W w p v b ts) (hk : Kp W0 W) : Tb W0 w p v b ts :=
  ⟨h.blk, h.ow.base hk, h.nm, Nat.le_trans hk.size h.pw, Nat.le_trans hk.size h.bw, h.pb, h.vp, h.vb⟩
/-- Another row of the call's own has changed. -/
theorem Tb.by {W w w' : World} {p b : Nat} {v : Value} {ts : List Tx} {row : Option Nat} (h : Tb W w p v b ts) (hg : w.grownBy w' row) (hr : ∀ r, row = some r → W.heap.size ≤ r)
    (h1 : row ≠ some p) (h2 : row ≠ some b) (h3 : ∀ c, v.ownBlock = some c → row ≠ some c) : Tb W w' p v b ts :=
  ⟨h.blk.by hg (fun e => h1 e.symm), h.ow.by hg hr h3, h.nm.by hg (fun e => h2 e.symm), h.pw, h.bw, h.pb, h.vp, h.vb⟩
/-- Nothing but the table has changed. -/
structure Turn (w w' : World) (p b : Nat) (v : Value) : Prop where
  size : w.heap.size ≤ w'.heap.size
  same : ∀ i, i < w.heap.size → i ≠ p → i ≠ b → v.ownBlock ≠ some i → w'.heap[i]? = w.heap[i]?
theorem Turn.refl (w : World) (p b : Nat) (v : Value) : Turn w w p b v := ⟨Nat.le_refl _, fun _ _ _ _ _ => rfl⟩
/-- What put leaves. -/
def PutT (W : World) (p b : Nat) (v : Value) (ts : List Tx) (x : Tx) (wr : World) (e : Ending) (w' : World) : Prop :=
  ∃ v', e = .returned (.int .i64 (fnd x (add ts x) : Nat)) ∧ Tb W w' p v' b (add ts x) ∧ Turn wr w' p b v ∧ ∀ c, v'.ownBlock = some c → v.ownBlock = some c ∨ wr.heap.size ≤ c
set_option maxRecDepth 100000 in
set_option maxHeartbeats 4000000 in
theorem put_any {W wr : World} {p b : Nat} {v : Value} {ts : List Tx} (h : Tb W wr p v b ts) (hn : ts.length ≤ 100000) {x : Tx} (hx : TxOk x) :
    Calls Try.prog 38 #[.pointer (some ⟨p, 0, none⟩), .string (st x)] wr (PutT W p b v ts x wr) := by
  obtain ⟨Q, hQ⟩ : ∃ Q, Q = PutT W p b v ts x wr := ⟨_, rfl⟩
  rw [← hQ]
  have FIN : Hid (∀ (n : Nat) (v' : Value) (w' : World), n = fnd x (add ts x) → Tb W w' p v' b (add ts x) → Turn wr w' p b v → (∀ c, v'.ownBlock = some c → v.ownBlock = some c ∨ wr.heap.size ≤ c) → Q (.returned (.int .i64 (n : Nat))) w') := Lib.hid (by
    intro n v' w' h1 h2 h3 h4
    rw [hQ]
    exact ⟨v', by rw [h1], h2, h3, h4⟩)
  have c0 := h.blk.cell 0 rfl
  have c1 := h.blk.cell 1 rfl
  have f0 := h.blk.free 0
  have q := h.nm.get hx
  have HT := Lib.hid h; have HN := Lib.hid hn; have HX := Lib.hid hx
  obtain ⟨⟨ua, ul, uc, rfl⟩, -⟩ := row_frc h.ow.owns
  have hul := h.ow.tw.len
  have HUL := Lib.hid hul
  obtain ⟨X, hX⟩ : ∃ X, X = st x := ⟨_, rfl⟩
  rw [← hX] at q ⊢
  have HXX := Lib.hid hX
  clear h hQ hX
  by_cases hm : x ∈ ts
  · have F : Hid (add ts x = ts ∧ mNum x ts = fnd x ts) := Lib.hid ⟨add_in hm, if_pos hm⟩
    rw [decide_eq_true hm, F.out.2] at q
    obtain ⟨k, hk⟩ : ∃ k, k = fnd x ts := ⟨_, rfl⟩
    rw [← hk] at q
    have HK := Lib.hid hk
    clear hm hk hx hn hul
    go_enter Try.func38, Try.ntmps38
    go_wp2_with fail
    exact FIN.out k _ _ (by rw [F.out.1]; exact HK.out) (by rw [F.out.1]; exact HT.out) (Turn.refl _ _ _ _) (fun c hc => .inl hc)
  · have F : Hid (add ts x = ts ++ [x] ∧ fnd x (ts ++ [x]) = ul) := Lib.hid ⟨add_new hm, by rw [fnd_snoc hm, hul]⟩
    have HM := Lib.hid hm
    rw [decide_eq_false hm] at q
    have i1 : (ul : Int) ≤ 100000 := by omega
    have HNB : Hid (Blk (wr.alloc (.cells #[.string X] 9)) wr.heap.size 9 #[.string (st x)]) := Lib.hid (by rw [← HXX.out]; exact Blk.new _ _ _)
    have HT1 := Lib.hid (HT.out.keep (kp_alloc wr (.cells #[.string X] 9)))
    have d0 := HT1.out.blk.cell 0 rfl
    have d1 := HT1.out.blk.cell 1 rfl
    clear hm hx hn hul
    go_enter Try.func38, Try.ntmps38
    go_wp2_with (at_builtin; refine wpList_tx (w := W) rfl (.tmp 27) (.tmp 29) rfl _ rfl HT1.out.ow (by have := HN.out; omega) x HX.out wr.heap.size rfl HNB.out ?_)
    intro v2 w2 ho2 hg2 ha2
    obtain ⟨⟨va, vl, vc, rfl⟩, hv2⟩ := row_frc ho2.owns
    have hpl : p < wr.heap.size := HT.out.blk.lt
    have hbl : b < wr.heap.size := HT.out.nm.lt
    have hb2 := HT1.out.blk.by hg2 (fun e => HT.out.vp _ e.symm rfl)
    have hn2 := HT1.out.nm.by hg2 (fun e => HT.out.vb _ e.symm rfl)
    have hsz : (wr.alloc (.cells #[.string X] 9)).heap.size = wr.heap.size + 1 := by simp
    have hvp : ∀ c, (Value.slice va vl vc).ownBlock = some c → c ≠ p := fun c hc => by
      rcases ha2 with e | e
      · exact HT.out.vp c (e ▸ hc)
      · rw [e] at hc; injection hc with hc; omega
    have hvb : ∀ c, (Value.slice va vl vc).ownBlock = some c → c ≠ b := fun c hc => by
      rcases ha2 with e | e
      · exact HT.out.vb c (e ▸ hc)
      · rw [e] at hc; injection hc with hc; omega
    have hvn : ∀ c, (Value.slice va vl vc).ownBlock = some c → (Value.slice ua ul uc).ownBlock = some c ∨ wr.heap.size ≤ c := fun c hc => by
      rcases ha2 with e | e
      · exact .inl (e ▸ hc)
      · rw [e] at hc; injection hc with hc; exact .inr (by omega)
    obtain ⟨W3, hW3⟩ : ∃ W3, W3 = w2.setCell ⟨p, 0, none⟩ (.slice va vl vc) := ⟨_, rfl⟩
    have hg3 : w2.grownBy W3 (some p) := by rw [hW3]; exact Only.gr ((Only.refl p w2).set 0 _)
    have hb3 : Blk W3 p 69 #[.slice va vl vc, .map (some b)] := by rw [hW3]; exact hb2.set 0 _
    have hn3 : NM W3 b ts := hn2.by hg3 (fun e => HT.out.pb (Option.some.inj e).symm)
    have ho3 : OwT W W3 (.slice va vl vc) (ts ++ [x]) := ho2.by hg3 (fun r hr => by injection hr with hr; rw [← hr]; exact HT.out.pw) (fun c hc e => hvp c hc (Option.some.inj e).symm)
    have e2 := hb2.cell 0 rfl; have g2 := hb2.free 0
    have e3 : (w2.setCell ⟨p, 0, none⟩ (.slice va vl vc)).cell? ⟨p, 1, none⟩ = some (.map (some b)) := by rw [← hW3]; exact hb3.cell 1 rfl
    have HW3 := Lib.hid hW3; have HN3 := Lib.hid hn3
    have FT : Hid (∀ w4, NM w4 b (ts ++ [x]) → W3.grownBy w4 (some b) → Tb W w4 p (.slice va vl vc) b (ts ++ [x]) ∧ Turn wr w4 p b (.slice ua ul uc)) := Lib.hid (by
      intro w4 hn4 hg4
      refine ⟨⟨hb3.by hg4 (fun e => HT.out.pb (Option.some.inj e)), ho3.by hg4 (fun r hr => by injection hr with hr; rw [← hr]; exact HT.out.bw) (fun c hc e => hvb c hc (Option.some.inj e).symm), hn4, HT.out.pw, HT.out.bw, HT.out.pb, hvp, hvb⟩, ?_, ?_⟩
      · have h1 := hg2.size; have h2 := hg3.size; have h3 := hg4.size
        omega
      · intro i hi hip hib hiv
        have h1 := hg2.size; have h2 := hg3.size
        rw [hg4.block i (by omega) (fun e => hib (Option.some.inj e)), hg3.block i (by omega) (fun e => hip (Option.some.inj e)), hg2.block i (by omega) (fun e => hiv e.symm), (kp_alloc wr (.cells #[.string X] 9)).block i hi])
    have HVN := Lib.hid hvn
    clear ho2 hg2 ha2 hv2 hb2 hn2 hvp hvb hvn hW3 hg3 hb3 hn3 ho3 d0 d1 c0 c1 f0 hsz
    go_wp2_with (at_mapUpdate; (try rw [← HW3.out]); refine wpList_nm rfl (.tmp 36) (.tmp 37) (.tmp 38) rfl rfl HN3.out (by have := HN.out; omega) x HX.out HM.out (by rw [← HXX.out]; rfl) (by rw [← HUL.out]; rfl) ?_)
    intro w4 hn4 hg4
    have H4 := Lib.hid (FT.out w4 hn4 hg4)
    clear hn4 hg4
    go_wp2_with fail
    exact FIN.out ul _ _ (by rw [F.out.1]; exact F.out.2.symm) (by rw [F.out.1]; exact H4.out.1) H4.out.2 HVN.out
end By
end Go.Proofs.Ytlfoikjbbbhbdaa

/- The program's tableOf. No condition. -/
namespace Go.Proofs.Ytlfoikjbbbhbdaa
namespace By
open Go.RowKit WireN CtN
set_option linter.unusedVariables false
set_option linter.unusedSimpArgs false

/-- The texts, each once. -/
def dd (acc ts : List Tx) : List Tx := ts.foldl add acc
theorem dd_snoc (acc ts : List Tx) (x : Tx) : dd acc (ts ++ [x]) = add (dd acc ts) x := by simp [dd]
theorem dd_len : ∀ (ts acc : List Tx), (dd acc ts).length ≤ acc.length + ts.length
  | [], acc => Nat.le_refl _
  | x :: ts, acc => by
    have h1 := dd_len ts (add acc x)
    have h2 := (add_len acc x).2
    show (dd (add acc x) ts).length ≤ _
    simp only [List.length_cons]
    omega
theorem dd_nodup : ∀ (ts acc : List Tx), acc.Nodup → (dd acc ts).length = acc.length + ts.length → (acc ++ ts).Nodup
  | [], acc, h, _ => by simpa using h
  | x :: ts, acc, h, he => by
    have h1 := dd_len ts (add acc x)
    have he' : (dd (add acc x) ts).length = acc.length + (x :: ts).length := he
    simp only [List.length_cons] at he'
    by_cases hm : x ∈ acc
    · rw [add_in hm] at h1 he'
      omega
    · have h2 := dd_nodup ts (add acc x) (add_nodup h) (by rw [he', add_new hm]; simp; omega)
      rw [add_new hm] at h2
      simpa using h2
theorem dd_self : ∀ (ts acc : List Tx), (acc ++ ts).Nodup → dd acc ts = acc ++ ts
  | [], acc, _ => by simp [dd]
  | x :: ts, acc, h => by
    have hm : x ∉ acc := fun hm => by
      rw [List.nodup_append] at h
      exact h.2.2 x hm x List.mem_cons_self rfl
    show dd (add acc x) ts = _
    rw [add_new hm, dd_self ts (acc ++ [x]) (by simpa using h)]
    simp
theorem dd_take {ts : List Tx} {k : Nat} {x : Tx} (h : ts[k]? = some x) : dd [] (ts.take (k + 1)) = add (dd [] (ts.take k)) x := by
  rw [List.take_add_one, h, Option.toList_some, dd_snoc]
theorem err_big {ts : List Tx} (h : 4096 < ts.length) : err ts = 2 := if_pos h
theorem err_twice {ts : List Tx} (h : ¬ 4096 < ts.length) (h2 : (dd [] ts).length < ts.length) : err ts = 10 := by
  rw [err, if_neg h, if_neg]
  intro hn
  rw [dd_self ts [] hn] at h2
  simp at h2
theorem err_fine {ts : List Tx} (h : ¬ 4096 < ts.length) (h2 : ¬ (dd [] ts).length < ts.length) : err ts = 0 ∧ dd [] ts = ts := by
  have h3 := dd_len ts []
  simp only [List.length_nil, Nat.zero_add] at h3
  have h4 : ts.Nodup := by simpa using dd_nodup ts [] List.nodup_nil (by simp; omega)
  exact ⟨by rw [err, if_neg h, if_pos h4], by simpa using dd_self ts [] (by simpa using h4)⟩
/-- What tableOf leaves. -/
def TabR (ts : List Tx) (w : World) (e : Ending) (w' : World) : Prop :=
  Kp w w' ∧ ((err ts ≠ 0 ∧ e = .returned (.tuple #[.pointer none, .int .i64 (err ts : Nat)])) ∨
    (err ts = 0 ∧ ∃ p v b, e = .returned (.tuple #[.pointer (some ⟨p, 0, none⟩), .int .i64 0]) ∧ Tb w w' p v b ts))
theorem OwT.nilI (W w : World) (h : Kp W w) : OwT W w (.slice none 0 0) [] := (OwT.start W).keep h
theorem mkmap (n : Int) (w : World) : (Instr.makeMap 67 (some (.int .i64 n))).run Try.prog w = .ok (.map (some w.heap.size)) (w.alloc (.map #[] 0)) := by
  simp [Instr.makeMap, run_underlying Try.underlying67, asInt, asIntOf, Result.andThen]
set_option maxRecDepth 100000 in
set_option maxHeartbeats 4000000 in
theorem tableOf_any {w : World} {v : Value} {ts : List Tx} (hs : Tw w v ts) :
    Calls Try.prog 36 #[.agg #[v]] w (TabR ts w) := by
  obtain ⟨Q, hQ⟩ : ∃ Q, Q = TabR ts w := ⟨_, rfl⟩
  rw [← hQ]
  have BAD : Hid (∀ (E : Nat) (w' : World), E = err ts → E ≠ 0 → Kp w w' → Q (.returned (.tuple #[.pointer none, .int .i64 (E : Nat)])) w') := Lib.hid (by
    intro E w' h1 h2 h3
    rw [hQ]
    exact ⟨h3, .inl ⟨by rw [← h1]; exact h2, by rw [h1]⟩⟩)
  obtain ⟨W, hW⟩ : ∃ W, W = w.alloc (.cells #[v] 25) := ⟨_, rfl⟩
  have hk0 : Kp w W := by rw [hW]; exact kp_alloc _ _
  have b1 : Blk W w.heap.size 25 #[v] := by rw [hW]; exact Blk.new _ _ _
  have GOOD : Hid (∀ (p : Nat) (v : Value) (b : Nat) (w' : World), err ts = 0 → Tb W w' p v b ts → Q (.returned (.tuple #[.pointer (some ⟨p, 0, none⟩), .int .i64 0])) w') := Lib.hid (by
    intro p v b w' h1 h2
    rw [hQ]
    have h3 := h2.base hk0
    exact ⟨h3.kp, .inr ⟨h1, p, v, b, rfl, h3⟩⟩)
  have HW := Lib.hid hW; have HK := Lib.hid hk0; have HB1 := Lib.hid b1; have HS := Lib.hid hs
  have c0 := b1.cell 0 rfl
  obtain ⟨ao, cap, rfl, hcap, -, -⟩ := hs.open3
  obtain ⟨m, hm⟩ : ∃ m, m = ts.length := ⟨_, rfl⟩
  rw [← hm] at HW HB1 HS c0 hcap ⊢
  have HM := Lib.hid hm
  have i1 : (m : Int) ≤ (cap : Int) := by omega
  clear hs hk0 b1 hcap hm hQ
  by_cases hbig : 4096 < m
  · have F : Hid (2 = err ts) := Lib.hid (err_big (by rw [← HM.out]; exact hbig)).symm
    have j0 : (4096 : Int) < (m : Int) := by omega
    clear hbig hW
    go_enter Try.func36, Try.ntmps36
    go_wp2_with fail
    rw [← HW.out]
    exact BAD.out 2 _ F.out (by decide) HK.out
  · have j0 : (m : Int) ≤ 4096 := by omega
    have HSM : Hid (¬ 4096 < ts.length) := Lib.hid (by rw [← HM.out]; exact hbig)
    have hmk := mkmap (m : Int)
    obtain ⟨b, hb⟩ : ∃ b, b = W.heap.size := ⟨_, rfl⟩
    obtain ⟨p, hp⟩ : ∃ p, p = W.heap.size + 1 := ⟨_, rfl⟩
    obtain ⟨w2, hw2⟩ : ∃ w2, w2 = (W.alloc (.map #[] 0)).alloc (.cells #[.slice none 0 0, .map (some b)] 69) := ⟨_, rfl⟩
    have hk2 : Kp W w2 := by rw [hw2]; exact Kp.alloc (kp_alloc _ _) _
    have hT0 : Tb W w2 p (.slice none 0 0) b [] := by
      refine ⟨?_, OwT.nilI W w2 hk2, ?_, by omega, by omega, by omega, fun c hc => by simp [Value.ownBlock] at hc, fun c hc => by simp [Value.ownBlock] at hc⟩
      · have := Blk.new (W.alloc (.map #[] 0)) 69 #[.slice none 0 0, .map (some b)]
        rw [hw2, hp]
        simpa using this
      · rw [hw2, hb]
        exact (NM.made W).keep (kp_alloc _ _)
    have c2 := (HB1.out.keep hk2).cell 0 rfl
    have HT0 := Lib.hid hT0; have HW2 := Lib.hid hw2; have HBB := Lib.hid hb; have HP := Lib.hid hp
    have s1 : w.heap.size + 1 = W.heap.size := by rw [hW]; simp
    have s2 : w.heap.size + 1 = b := by omega
    have s3 : b + 1 = p := by omega
    have S2 := Lib.hid s2; have S3 := Lib.hid s3
    clear hbig hk2 hT0 hw2 hb hp hW s1 s2 s3
    go_enter Try.func36, Try.ntmps36
    go_wp2_with fail
    rw [S2.out, S3.out, ← HW.out, ← HW2.out]
    go_loopw [20] (fun i wr => ∃ (k : Nat) (v : Value), i = .int .i64 (k : Nat) ∧ k ≤ m ∧ Tb W wr p v b (dd [] (ts.take k))) (fun i _ => m - (intOf i).toNat)
    case atStart => exact ⟨0, _, rfl, Nat.zero_le _, HT0.out⟩
    case round =>
      obtain ⟨k, v, rfl, hk, hT⟩ := hrel
      rename World => wr
      have HT := Lib.hid hT
      by_cases hlt : k < m
      · obtain ⟨x, hx⟩ : ∃ x, ts[k]? = some x := ⟨_, List.getElem?_eq_getElem (by have := HM.out; omega)⟩
        have hxo : TxOk x := HS.out.ok x (List.mem_of_getElem? hx)
        obtain ⟨bb, off, rfl, hcell⟩ := (HS.out.keep (HK.out.trans hT.kp)).cell (by omega)
        have d0 := hcell k x hx
        have j1 : (k : Int) < (m : Int) := by omega
        have HD : Hid (dd [] (ts.take (k + 1)) = add (dd [] (ts.take k)) x) := Lib.hid (dd_take hx)
        have hl := dd_len (ts.take k) []
        rw [List.length_take] at hl
        simp only [List.length_nil] at hl
        have HC := Lib.hid (put_any hT (by omega) hxo)
        obtain ⟨X, hX⟩ : ∃ X, X = st x := ⟨_, rfl⟩
        rw [← hX] at d0 HC
        clear hcell hx hxo hl hT hX
        go_wp2_with fail
        refine HC.out.mono ?_
        rintro e w4 ⟨v', rfl, h4, -, -⟩
        rw [← HD.out] at h4
        have H4 := Lib.hid h4
        clear h4 d0
        go_wp2_with fail
        go_roundw
        case rel => exact ⟨k + 1, _, by go_num, by omega, H4.out⟩
        case measure => simp [intOf]; omega
      · obtain rfl : k = m := by omega
        have htk : ts.take k = ts := List.take_of_length_le (by have := HM.out; omega)
        rw [htk] at HT
        obtain ⟨⟨ua, ul, uc, rfl⟩, -⟩ := row_frc HT.out.ow.owns
        have HUL := Lib.hid HT.out.ow.tw.len
        have e0 := HT.out.blk.cell 0 rfl
        have e1 := (HB1.out.keep HT.out.kp).cell 0 rfl
        clear hT htk hlt hk
        by_cases hless : ul < k
        · have F : Hid (10 = err ts) := Lib.hid (err_twice HSM.out (by rw [← HUL.out, ← HM.out]; exact hless)).symm
          have j3 : (ul : Int) < (k : Int) := by omega
          clear hless
          go_wp2_with fail
          go_region
          go_wp2_with fail
          exact BAD.out 10 _ F.out (by decide) ((HK.out.trans HT.out.kp).trans (kp_drew _))
        · have F : Hid (err ts = 0 ∧ dd [] ts = ts) := Lib.hid (err_fine HSM.out (by rw [← HUL.out, ← HM.out]; exact hless))
          have j3 : (k : Int) ≤ (ul : Int) := by omega
          clear hless
          go_wp2_with fail
          go_region
          go_wp2_with fail
          exact GOOD.out p _ b _ F.out.1 (by rw [← F.out.2]; exact HT.out.keep (kp_drew _))
end By
end Go.Proofs.Ytlfoikjbbbhbdaa

/- The program's Check, Find and isNumber. No condition. -/
namespace Go.Proofs.Ytlfoikjbbbhbdaa
namespace By
open Go.RowKit WireN CtN
set_option linter.unusedVariables false
set_option linter.unusedSimpArgs false

set_option maxRecDepth 100000 in
set_option maxHeartbeats 1000000 in
theorem check_any {w : World} {v : Value} {ts : List Tx} (hs : Tw w v ts) :
    Calls Try.prog 9 #[.agg #[v]] w fun e w' => e = .returned (.int .i64 (err ts : Nat)) ∧ Kp w w' := by
  obtain ⟨Q, hQ⟩ : ∃ Q : Ending → World → Prop, Q = fun e w' => e = .returned (.int .i64 (err ts : Nat)) ∧ Kp w w' := ⟨_, rfl⟩
  have FIN : Hid (∀ (E : Nat) (w' : World), E = err ts → Kp w w' → Q (.returned (.int .i64 (E : Nat))) w') := Lib.hid (by
    intro E w' h1 h2
    rw [hQ, h1]
    exact ⟨rfl, h2⟩)
  rw [← hQ]
  clear hQ
  obtain ⟨W, hW⟩ : ∃ W, W = w.alloc (.cells #[v] 25) := ⟨_, rfl⟩
  have hk0 : Kp w W := by rw [hW]; exact kp_alloc _ _
  have hb0 : Blk W w.heap.size 25 #[v] := by rw [hW]; exact Blk.new _ _ _
  have HC := Lib.hid (tableOf_any (hs.keep hk0))
  have HW := Lib.hid hW; have HK := Lib.hid hk0
  have c0 := hb0.cell 0 rfl
  obtain ⟨ao, cap, rfl, -, -, -⟩ := hs.open3
  clear hs hk0 hb0 hW
  go_enter Try.func9, Try.ntmps9
  go_wp2_with fail
  rw [← HW.out]
  refine HC.out.mono ?_
  rintro e w1 ⟨hk1, h⟩
  have HK1 := Lib.hid (HK.out.trans hk1)
  clear hk1
  rcases h with ⟨-, rfl⟩ | ⟨h0, p, v, b, rfl, -⟩
  · obtain ⟨E, hE⟩ : ∃ E, E = err ts := ⟨_, rfl⟩
    rw [← hE]
    have HE := Lib.hid hE
    clear hE
    go_wp2_with fail
    exact FIN.out E _ HE.out HK1.out
  · have H0 := Lib.hid h0
    clear h0
    go_wp2_with fail
    exact FIN.out 0 _ H0.out.symm HK1.out
theorem mNum_fd {x : Tx} {ts : List Tx} (h : err ts = 0) : mNum x ts = fdN x ts ∧ decide (x ∈ ts) = fdB x ts := by
  unfold mNum fdN fdB
  by_cases hm : x ∈ ts <;> simp [h, hm]
set_option maxRecDepth 100000 in
set_option maxHeartbeats 1000000 in
theorem find_any {w : World} {v : Value} {ts : List Tx} (hs : Tw w v ts) {x : Tx} (hx : TxOk x) :
    Calls Try.prog 11 #[.agg #[v], .string (st x)] w fun e w' => e = .returned (.tuple #[.int .i64 (fdN x ts : Nat), .bool (fdB x ts)]) ∧ Kp w w' := by
  obtain ⟨W, hW⟩ : ∃ W, W = w.alloc (.cells #[v] 25) := ⟨_, rfl⟩
  have hk0 : Kp w W := by rw [hW]; exact kp_alloc _ _
  have hb0 : Blk W w.heap.size 25 #[v] := by rw [hW]; exact Blk.new _ _ _
  have HC := Lib.hid (tableOf_any (hs.keep hk0))
  have HW := Lib.hid hW; have HK := Lib.hid hk0; have HX := Lib.hid hx
  have c0 := hb0.cell 0 rfl
  obtain ⟨N, hN⟩ : ∃ N, N = fdN x ts := ⟨_, rfl⟩
  obtain ⟨B, hB⟩ : ∃ B, B = fdB x ts := ⟨_, rfl⟩
  have FIN : Hid (∀ (n : Nat) (c : Bool) (w' : World), n = N → c = B → Kp w w' → Ending.returned (.tuple #[.int .i64 (n : Nat), .bool c]) = Ending.returned (.tuple #[.int .i64 (N : Nat), .bool B]) ∧ Kp w w') := Lib.hid (by
    intro n c w' h1 h2 h3
    rw [h1, h2]
    exact ⟨rfl, h3⟩)
  obtain ⟨Q, hQ⟩ : ∃ Q : Ending → World → Prop, Q = fun e w' => e = .returned (.tuple #[.int .i64 (N : Nat), .bool B]) ∧ Kp w w' := ⟨_, rfl⟩
  have FIN2 : Hid (∀ (n : Nat) (c : Bool) (w' : World), n = N → c = B → Kp w w' → Q (.returned (.tuple #[.int .i64 (n : Nat), .bool c])) w') := Lib.hid (by
    intro n c w' h1 h2 h3
    rw [hQ]
    exact FIN.out n c w' h1 h2 h3)
  rw [← hN, ← hB, ← hQ]
  have HN := Lib.hid hN; have HB := Lib.hid hB
  obtain ⟨X, hX⟩ : ∃ X, X = st x := ⟨_, rfl⟩
  rw [← hX]
  have HXX := Lib.hid hX
  obtain ⟨ao, cap, rfl, -, -, -⟩ := hs.open3
  clear hs hk0 hb0 hW hQ hN hB hX FIN
  go_enter Try.func11, Try.ntmps11
  go_wp2_with fail
  rw [← HW.out]
  refine HC.out.mono ?_
  rintro e w1 ⟨hk1, h⟩
  have HK1 := Lib.hid (HK.out.trans hk1)
  clear hk1
  rcases h with ⟨h0, rfl⟩ | ⟨h0, p, v, b, rfl, hT⟩
  · have F : Hid (0 = N ∧ false = B) := Lib.hid ⟨by rw [HN.out, fdN, if_neg (fun h => h0 h.1)], by rw [HB.out, fdB]; exact (decide_eq_false (fun h => h0 h.1)).symm⟩
    obtain ⟨E, hE⟩ : ∃ E, E = err ts := ⟨_, rfl⟩
    rw [← hE] at h0 ⊢
    have q : ((E : Int) != 0) = true := by simp; omega
    clear hE h0
    go_wp2_with fail
    exact FIN2.out 0 false _ F.out.1 F.out.2 HK1.out
  · have F : Hid (mNum x ts = N ∧ decide (x ∈ ts) = B) := Lib.hid (by rw [HN.out, HB.out]; exact mNum_fd h0)
    have d1 := hT.blk.cell 1 rfl
    have qg := hT.nm.get HX.out
    rw [F.out.1, F.out.2, ← HXX.out] at qg
    clear hT h0
    go_wp2_with fail
    exact FIN2.out N B _ rfl rfl HK1.out
set_option maxRecDepth 100000 in
set_option maxHeartbeats 1000000 in
theorem isNumber_any {w : World} {v : Value} {ts : List Tx} (hs : Tw w v ts) (n : Int) :
    Calls Try.prog 40 #[.agg #[v], .int .i64 n] w fun e w' => e = .returned (.bool (decide (0 ≤ n ∧ n < (ts.length : Int)))) ∧ Kp w w' := by
  obtain ⟨W, hW⟩ : ∃ W, W = w.alloc (.cells #[v] 25) := ⟨_, rfl⟩
  have hk0 : Kp w W := by rw [hW]; exact kp_alloc _ _
  have hb0 : Blk W w.heap.size 25 #[v] := by rw [hW]; exact Blk.new _ _ _
  have HW := Lib.hid hW; have HK := Lib.hid hk0
  have c0 := hb0.cell 0 rfl
  obtain ⟨ao, cap, rfl, -, -, -⟩ := hs.open3
  obtain ⟨m, hm⟩ : ∃ m, m = ts.length := ⟨_, rfl⟩
  rw [← hm] at HW c0 ⊢
  clear hs hk0 hb0 hm
  by_cases h1 : n < 0
  · have F : Hid (decide (0 ≤ n ∧ n < (m : Int)) = false) := Lib.hid (decide_eq_false (by omega))
    rw [F.out]
    rw [hW] at c0
    clear hW
    go_enter Try.func40, Try.ntmps40
    go_wp2_with fail
    go_ret
    (try rw [← HW.out])
    exact ⟨rfl, HK.out⟩
  · have h2 : 0 ≤ n := by omega
    clear h1
    by_cases h3 : n < (m : Int)
    · have F : Hid (decide (0 ≤ n ∧ n < (m : Int)) = true) := Lib.hid (decide_eq_true (by omega))
      rw [F.out]
      rw [hW] at c0
      clear hW
      go_enter Try.func40, Try.ntmps40
      go_wp2_with fail
      go_ret
      (try rw [← HW.out])
      exact ⟨rfl, HK.out⟩
    · have F : Hid (decide (0 ≤ n ∧ n < (m : Int)) = false) := Lib.hid (decide_eq_false (by omega))
      have h4 : (m : Int) ≤ n := by omega
      have Q3 : Hid (decide (n < (m : Int)) = false) := Lib.hid (decide_eq_false h3)
      rw [F.out]
      rw [hW] at c0
      clear hW h3
      go_enter Try.func40, Try.ntmps40
      go_wp2_with fail
      go_ret
      (try rw [← HW.out])
      exact ⟨by show Ending.returned (.bool (decide (n < (m : Int)))) = _; rw [Q3.out], HK.out⟩
end By
end Go.Proofs.Ytlfoikjbbbhbdaa

/- A copy of a text, and the program's Get. Condition: the text is not too long. -/
namespace Go.Proofs.Ytlfoikjbbbhbdaa
namespace By
open Go.RowKit WireN CtN
set_option linter.unusedVariables false
set_option linter.unusedSimpArgs false

theorem Clone_t {x : Tx} (hx : TxOk x) (w : World) : Calls Try.prog 41 #[.string (st x)] w fun e w' => e = .returned (.string (st x)) ∧ Kp w w' := by
  have HC := Lib.hid (Try.stringslite_Clone (st x) w (by rw [st_size]; have := hx.2; omega))
  obtain ⟨S, hS⟩ : ∃ S, S = st x := ⟨_, rfl⟩
  rw [← hS] at HC ⊢
  clear hS
  go_enter Try.func41, Try.ntmps41
  go_wp2_with fail
  refine HC.out.mono ?_
  rintro e w1 ⟨rfl, hk⟩
  have HK := Lib.hid hk
  clear hk
  go_wp2_with fail
  go_ret
  exact ⟨rfl, HK.out⟩
set_option maxRecDepth 100000 in
set_option maxHeartbeats 1000000 in
theorem get_any {w : World} {v : Value} {ts : List Tx} (hs : Tw w v ts) (n : Int) :
    Calls Try.prog 16 #[.agg #[v], .int .i64 n] w fun e w' => e = .returned (.tuple #[.string (st (gtT n ts)), .int .i64 (gtE n ts : Nat)]) ∧ Kp w w' := by
  obtain ⟨Q, hQ⟩ : ∃ Q : Ending → World → Prop, Q = fun e w' => e = .returned (.tuple #[.string (st (gtT n ts)), .int .i64 (gtE n ts : Nat)]) ∧ Kp w w' := ⟨_, rfl⟩
  have FIN : Hid (∀ (S : ByteArray) (E : Nat) (w' : World), S = st (gtT n ts) → E = gtE n ts → Kp w w' → Q (.returned (.tuple #[.string S, .int .i64 (E : Nat)])) w') := Lib.hid (by
    intro S E w' h1 h2 h3
    rw [hQ, h1, h2]
    exact ⟨rfl, h3⟩)
  rw [← hQ]
  clear hQ
  obtain ⟨W, hW⟩ : ∃ W, W = w.alloc (.cells #[v] 25) := ⟨_, rfl⟩
  have hk0 : Kp w W := by rw [hW]; exact kp_alloc _ _
  have hb0 : Blk W w.heap.size 25 #[v] := by rw [hW]; exact Blk.new _ _ _
  have HB := Lib.hid (check_any (hs.keep hk0))
  have HW := Lib.hid hW; have HK := Lib.hid hk0; have HBL := Lib.hid hb0; have HS := Lib.hid hs
  have c0 := hb0.cell 0 rfl
  obtain ⟨E, hE⟩ : ∃ E, E = err ts := ⟨_, rfl⟩
  have HE := Lib.hid hE
  have HI : Hid (∀ w1, Kp W w1 → Calls Try.prog 40 #[.agg #[v], .int .i64 n] w1 fun e w' => e = .returned (.bool (decide (0 ≤ n ∧ n < (ts.length : Int)))) ∧ Kp w1 w') := Lib.hid (fun w1 hk => isNumber_any (hs.keep (hk0.trans hk)) n)
  obtain ⟨ao, cap, rfl, hcap, -, -⟩ := hs.open3
  obtain ⟨m, hm⟩ : ∃ m, m = ts.length := ⟨_, rfl⟩
  rw [← hm] at HW HBL HS HB HI c0 hcap ⊢
  have HM := Lib.hid hm
  have i1 : (m : Int) ≤ (cap : Int) := by omega
  rw [← hE] at HB
  clear hs hk0 hb0 hW hE hcap hm
  by_cases he : E = 0
  · have q : ((E : Int) != 0) = false := by simp [he]
    have HE0 : Hid (err ts = 0) := Lib.hid (HE.out ▸ he)
    by_cases hn : 0 ≤ n ∧ n < (m : Int)
    · have F1 : Hid (gtE n ts = 0) := Lib.hid (gtE_in HE0.out (by rw [← HM.out]; exact hn))
      have HI' : Hid (∀ w1, Kp W w1 → Calls Try.prog 40 #[.agg #[.slice ao m cap], .int .i64 n] w1 fun e w' => e = .returned (.bool true) ∧ Kp w1 w') := Lib.hid (by
        have := HI.out
        rwa [decide_eq_true hn] at this)
      obtain ⟨h1, h2⟩ := hn
      obtain ⟨k, rfl⟩ : ∃ k : Nat, n = (k : Int) := ⟨n.toNat, by omega⟩
      obtain ⟨x, hx⟩ : ∃ x, ts[k]? = some x := ⟨_, List.getElem?_eq_getElem (by have := HM.out; omega)⟩
      have F2 : Hid (st x = st (gtT k ts)) := Lib.hid (by rw [gtT_ok F1.out, Int.toNat_natCast, hx]; rfl)
      have HCL : Hid (∀ w1, Calls Try.prog 41 #[.string (st x)] w1 fun e w' => e = .returned (.string (st x)) ∧ Kp w1 w') := Lib.hid (fun w1 => Clone_t (HS.out.ok x (List.mem_of_getElem? hx)) w1)
      obtain ⟨b, off, rfl, hcell⟩ := HS.out.cell (by omega)
      obtain ⟨X, hX⟩ : ∃ X, X = st x := ⟨_, rfl⟩
      have hcx := hcell k x hx
      rw [← hX] at HCL F2 hcx
      have HX := Lib.hid hcx
      clear hcell hx h1 he hX HI hcx
      go_enter Try.func16, Try.ntmps16
      go_wp2_with fail
      rw [← HW.out]
      refine HB.out.mono ?_
      rintro e w1 ⟨rfl, hk1⟩
      have HK1 := Lib.hid hk1
      have c1 := (HBL.out.keep hk1).cell 0 rfl
      clear hk1
      go_wp2_with fail
      refine (HI'.out _ HK1.out).mono ?_
      rintro e w2 ⟨rfl, hk2⟩
      have HK2 := Lib.hid (HK1.out.trans hk2)
      have c2 := (HBL.out.keep HK2.out).cell 0 rfl
      have d2 := cell_kept HX.out (HK.out.trans HK2.out)
      clear hk2 c1
      go_wp2_with fail
      refine (HCL.out _).mono ?_
      rintro e w3 ⟨rfl, hk3⟩
      have HK3 := Lib.hid ((HK.out.trans HK2.out).trans hk3)
      clear hk3
      go_wp2_with fail
      exact FIN.out X 0 _ F2.out F1.out.symm HK3.out
    · have F1 : Hid (gtE n ts = 20) := Lib.hid (gtE_out HE0.out (by rw [← HM.out]; exact hn))
      have F2 : Hid (⟨#[]⟩ = st (gtT n ts)) := Lib.hid (by rw [gtT_no (by rw [F1.out]; decide)]; rfl)
      have HI' : Hid (∀ w1, Kp W w1 → Calls Try.prog 40 #[.agg #[.slice ao m cap], .int .i64 n] w1 fun e w' => e = .returned (.bool false) ∧ Kp w1 w') := Lib.hid (by
        have := HI.out
        rwa [decide_eq_false hn] at this)
      clear HI hn he
      go_enter Try.func16, Try.ntmps16
      go_wp2_with fail
      rw [← HW.out]
      refine HB.out.mono ?_
      rintro e w1 ⟨rfl, hk1⟩
      have HK1 := Lib.hid hk1
      have c1 := (HBL.out.keep hk1).cell 0 rfl
      clear hk1
      go_wp2_with fail
      refine (HI'.out _ HK1.out).mono ?_
      rintro e w2 ⟨rfl, hk2⟩
      have HK2 := Lib.hid ((HK.out.trans HK1.out).trans hk2)
      clear hk2 c1
      go_wp2_with fail
      exact FIN.out _ 20 _ F2.out F1.out.symm HK2.out
  · have q : ((E : Int) != 0) = true := by simp; omega
    have F1 : Hid (E = gtE n ts) := Lib.hid (by rw [HE.out]; exact (gtE_bad (HE.out ▸ he)).symm)
    have F2 : Hid (⟨#[]⟩ = st (gtT n ts)) := Lib.hid (by rw [gtT_no (by rw [← F1.out]; exact he)]; rfl)
    clear he HI
    go_enter Try.func16, Try.ntmps16
    go_wp2_with fail
    rw [← HW.out]
    refine HB.out.mono ?_
    rintro e w1 ⟨rfl, hk1⟩
    have HK1 := Lib.hid (HK.out.trans hk1)
    clear hk1
    go_wp2_with fail
    exact FIN.out _ E _ F2.out F1.out HK1.out
end By
end Go.Proofs.Ytlfoikjbbbhbdaa
