/- A map from texts to rows of texts: what the program keeps of the files that are gone. Condition: paths are not longer than a machine allows. -/
import Derived.Test.YtfobogcccbddbaaGreatDoorZao
import Derived.Maps.AppendAt
import Derived.Deep.RegionHeld3
import Derived.StillTailTactics
import Derived.Test.YtfobogcccbddbaaGreatDoorZal
import Derived.Test.YtfobogcccbddbaaGreatDoorZag
namespace Go.Proofs.YtfobogcccbddbaaGreatDoor
namespace By
open Go.RowKit WireN LexN RevN FdN CtN
set_option linter.unusedVariables false
set_option linter.unusedSimpArgs false

abbrev gv (V : List Nat → Option Value) (y : List Nat) : Value := (V y).getD (.slice none 0 0)
theorem underSR : Tryz.prog.underlying 89 = some (.map 9 74) := Tryz.underlying89
theorem zeroRow (w : World) : (zeroValue 74).run Tryz.prog w = .ok (.slice none 0 0) w := Tryz.zeroValue74 w
/-- The map while its rows are written. -/
structure GW (base w : World) (mb nn : Nat) (V : List Nat → Option Value) (M : List Nat → List Tx) : Prop where
  mv : ∃ sz, MV w mb nn sz V
  row : ∀ y, Lt y → OwT base w (gv V y) (M y) ∧ (∀ b, (gv V y).ownBlock = some b → b ≠ mb) ∧ ∀ z, Lt z → z ≠ y → ∀ b, (gv V y).ownBlock = some b → (gv V z).ownBlock ≠ some b
  lo : base.heap.size ≤ mb
  kp : Kp base w
theorem GW.keep {base w w' : World} {mb nn : Nat} {V : List Nat → Option Value} {M : List Nat → List Tx} (h : GW base w mb nn V M) (hk : Kp w w') : GW base w' mb nn V M := by
  obtain ⟨⟨sz, h1⟩, h2, h3, h4⟩ := h
  exact ⟨⟨sz, h1.keep hk⟩, fun y hy => ⟨(h2 y hy).1.keep hk, (h2 y hy).2⟩, h3, h4.trans hk⟩
theorem GW.get {base w : World} {mb nn : Nat} {V : List Nat → Option Value} {M : List Nat → List Tx} (h : GW base w mb nn V M) {y : List Nat} (hy : Lt y) (hl : y.length ≤ maxLen) :
    (Instr.lookup 89 (.map (some mb)) (.string (st y)) false).run Tryz.prog w = .ok (gv V y) w := by
  obtain ⟨⟨sz, h1⟩, -, -, -⟩ := h
  exact h1.get1 underSR (zeroRow w) hy hl
/-- A path was put to a row, and the row into the map. -/
theorem GW.app {base w1 w2 w3 : World} {mb nn : Nat} {V : List Nat → Option Value} {M : List Nat → List Tx} (h : GW base w1 mb nn V M) {y : List Nat} (hy : Lt y) {p : Tx} {v' : Value}
    (ho : OwT base w2 v' (M y ++ [p])) (hg : w1.grownBy w2 (gv V y).ownBlock) (hv : v'.ownBlock = (gv V y).ownBlock ∨ v'.ownBlock = some w1.heap.size)
    (hm : ∀ sz, MV w2 mb nn sz V → ∃ sz', MV w3 mb (nn + 1) sz' (mset V y v')) (hg3 : w2.grownBy w3 (some mb)) : GW base w3 mb (nn + 1) (mset V y v') (fun q => if q = y then M q ++ [p] else M q) := by
  obtain ⟨⟨sz, h1⟩, h2, h3, h4⟩ := h
  have hml := h1.lt
  obtain ⟨hy1, hy2, hy3⟩ := h2 y hy
  have hk2 : Kp base w2 := Below.grown h4 hg h4.size (fun r hr => hy1.newer r hr)
  have hn3 : ∀ r, some mb = some r → base.heap.size ≤ r := fun r hr => by injection hr with hr; omega
  have hnv : ∀ b, v'.ownBlock = some b → b ≠ mb := fun b hb => by
    rcases hv with e | e
    · exact hy2 b (by rw [← e]; exact hb)
    · rw [e] at hb; injection hb with hb; omega
  have hblt : ∀ z, Lt z → ∀ b, (gv V z).ownBlock = some b → b < w1.heap.size := fun z hz b hb => ((row_frc (h2 z hz).1.owns).2 b hb).2
  refine ⟨hm sz (h1.by hg (fun e => hy2 mb e.symm rfl)), fun z hz => ?_, h3, Below.grown hk2 hg3 hk2.size hn3⟩
  by_cases e : z = y
  · subst e
    have eg : gv (mset V z v') z = v' := by unfold gv mset; rw [if_pos rfl]; rfl
    rw [eg, if_pos rfl]
    refine ⟨ho.by hg3 hn3 (fun b hb e => ?_), hnv, fun x hx hne b hb => ?_⟩
    · injection e with e; exact hnv b hb e.symm
    · have ex : gv (mset V z v') x = gv V x := by unfold gv mset; rw [if_neg hne]
      rw [ex]
      rcases hv with e2 | e2
      · exact hy3 x hx hne b (by rw [← e2]; exact hb)
      · rw [e2] at hb
        injection hb with hb
        intro hc
        have := hblt x hx b hc
        omega
  · have eg : gv (mset V y v') z = gv V z := by unfold gv mset; rw [if_neg e]
    obtain ⟨hz1, hz2, hz3⟩ := h2 z hz
    rw [eg, if_neg e]
    have hz4 : OwT base w2 (gv V z) (M z) := hz1.by hg (fun r hr => hy1.newer r hr) (fun b hb hc => hz3 y hy (fun e2 => e e2.symm) b hb hc)
    refine ⟨hz4.by hg3 hn3 (fun b hb hc => ?_), hz2, fun x hx hne b hb => ?_⟩
    · injection hc with hc; exact hz2 b hb hc.symm
    · by_cases ey : x = y
      · subst ey
        have ex : gv (mset V x v') x = v' := by unfold gv mset; rw [if_pos rfl]; rfl
        rw [ex]
        rcases hv with e2 | e2
        · rw [e2]; exact hz3 x hx hne b hb
        · rw [e2]
          intro hc
          injection hc with hc
          have := hblt z hz b hb
          omega
      · have ex : gv (mset V y v') x = gv V x := by unfold gv mset; rw [if_neg ey]
        rw [ex]
        exact hz3 x hx hne b hb
theorem GW.made {base w : World} (hk : Kp base w) : GW base (w.alloc (.map #[] 0)) w.heap.size 0 (fun _ => none) (fun _ => []) :=
  ⟨⟨0, MV.made w⟩, fun y hy => ⟨((OwT.start base).keep hk).keep (kp_alloc _ _), fun b hb => by simp [gv, Value.ownBlock] at hb, fun z hz hne b hb => by simp [gv, Value.ownBlock] at hb⟩, hk.size, hk.trans (kp_alloc _ _)⟩
/-- The map while its rows are read. -/
structure GR (lo : Nat) (w : World) (mb nn : Nat) (V : List Nat → Option Value) (M : List Nat → List Tx) : Prop where
  mv : ∃ sz, MV w mb nn sz V
  row : ∀ y, Lt y → Tw w (gv V y) (M y) ∧ ∀ b, (gv V y).ownBlock = some b → b < lo ∧ b ≠ mb
  lt : mb < lo
  sz : lo ≤ w.heap.size
theorem GW.done {base w : World} {mb nn : Nat} {V : List Nat → Option Value} {M : List Nat → List Tx} (h : GW base w mb nn V M) : GR w.heap.size w mb nn V M := by
  obtain ⟨⟨sz, h1⟩, h2, h3, h4⟩ := h
  exact ⟨⟨sz, h1⟩, fun y hy => ⟨(h2 y hy).1.tw, fun b hb => ⟨((row_frc (h2 y hy).1.owns).2 b hb).2, (h2 y hy).2.1 b hb⟩⟩, h1.lt, Nat.le_refl _⟩
theorem GR.by {lo : Nat} {w w' : World} {mb nn : Nat} {V : List Nat → Option Value} {M : List Nat → List Tx} (h : GR lo w mb nn V M) {row : Option Nat} (hg : w.grownBy w' row) (hr : ∀ r, row = some r → lo ≤ r) : GR lo w' mb nn V M := by
  obtain ⟨⟨sz, h1⟩, h2, h3, h4⟩ := h
  refine ⟨⟨sz, h1.by hg (fun e => by have := hr mb e.symm; omega)⟩, fun y hy => ⟨(h2 y hy).1.by hg (fun b hb e => ?_), (h2 y hy).2⟩, h3, Nat.le_trans h4 hg.size⟩
  have := hr b e
  have := ((h2 y hy).2 b hb).1
  omega
theorem GR.keep {lo : Nat} {w w' : World} {mb nn : Nat} {V : List Nat → Option Value} {M : List Nat → List Tx} (h : GR lo w mb nn V M) (hk : Kp w w') : GR lo w' mb nn V M :=
  h.by (row := none) ⟨hk.os, hk.tape, hk.output, hk.size, fun i hi _ => hk.block i hi⟩ (fun r hr => by cases hr)
theorem GR.get {lo : Nat} {w : World} {mb nn : Nat} {V : List Nat → Option Value} {M : List Nat → List Tx} (h : GR lo w mb nn V M) {y : List Nat} (hy : Lt y) (hl : y.length ≤ maxLen) :
    (Instr.lookup 89 (.map (some mb)) (.string (st y)) false).run Tryz.prog w = .ok (gv V y) w := by
  obtain ⟨⟨sz, h1⟩, -, -, -⟩ := h
  exact h1.get1 underSR (zeroRow w) hy hl
/-- The first text of a row is left out. -/
theorem Tw.rest {w : World} {b off n cap : Nat} {x : Tx} {ts : List Tx} (h : Tw w (.slice (some ⟨b, off, none⟩) n cap) (x :: ts)) : Tw w (sliced (some ⟨b, off, none⟩) 1 n cap 1) ts := by
  have hl := h.len
  obtain ⟨b', off', e, hcell⟩ := h.cell (by rw [hl]; simp)
  injection e with e
  injection e with e1 e2
  subst e1 e2
  obtain ⟨⟨ao, c, h1, h2, h3, h4, h5⟩, ho⟩ := h
  simp only [Value.slice.injEq] at h1
  obtain ⟨rfl, h1b, rfl⟩ := h1
  have hl2 : n = ts.length + 1 := by rw [hl]; rfl
  simp at h2
  unfold sliced
  by_cases hc : cap = 1
  · rw [if_pos hc]
    obtain rfl : ts = [] := List.length_eq_zero_iff.1 (by omega)
    exact ⟨⟨some ⟨b, off, none⟩, cap - 1, by rw [hl2]; rfl, by simp, by omega, .inl rfl, fun e => by cases e⟩, fun y hy => by simp at hy⟩
  · rw [if_neg hc]
    refine ⟨⟨_, _, by rw [hl2]; rfl, by omega, by omega, .inr ⟨b, off + 1, rfl, fun j y hy => ?_⟩, fun e => nomatch e⟩, fun y hy => ho y (List.mem_cons_of_mem _ hy)⟩
    have := hcell (j + 1) y (by simpa using hy)
    rw [show off + 1 + j = off + (j + 1) by omega]
    exact this
theorem sliced_blk {b off n cap : Nat} (c : Nat) (h : (sliced (some ⟨b, off, none⟩) 1 n cap 1).ownBlock = some c) : c = b := by
  unfold sliced at h
  by_cases hc : cap = 1
  · rw [if_pos hc] at h
    exact (by simpa [Value.ownBlock] using h : b = c).symm
  · rw [if_neg hc] at h
    exact (by simpa [Value.ownBlock, Addr.add] using h : b = c).symm
theorem elemT : Tryz.prog.elem 74 = 9 := by kernel_rfl
theorem sizeT (w : World) : (sizeOf (Tryz.prog.elem 74)).run Tryz.prog w = .ok 1 w := by
  obtain ⟨i0, hi, hz0, hz1, hz2⟩ := info_parts infoTx
  rw [elemT]
  simp [sizeOf, typeInfo, hi, hz1]
theorem undT : Tryz.prog.underlying 74 = some (.slice (Tryz.prog.elem 74)) := by rw [elemT]; exact Tryz.underlying74
theorem slice_rest (ao : Option Addr) (len cap : Nat) (hi : 1 ≤ len) (w : World) : (Instr.slice 74 (.slice ao len cap) (some (.int .i64 1)) none none).run Tryz.prog w = .ok (sliced ao 1 len cap 1) w := by
  rw [run_slice_l w 74 ao len cap undT .i64 1 (by omega) (by omega), sizeT]
  rfl
theorem GR.take {lo : Nat} {w w' : World} {mb nn : Nat} {V : List Nat → Option Value} {M : List Nat → List Tx} (h : GR lo w mb nn V M) {y : List Nat} (hy : Lt y) {x : Tx} {ts : List Tx} (hM : M y = x :: ts) {b off n cap : Nat} (hv : gv V y = .slice (some ⟨b, off, none⟩) n cap)
    {v' : Value} (hv' : v' = sliced (some ⟨b, off, none⟩) 1 n cap 1) (hm : ∃ sz', MV w' mb (nn + 1) sz' (mset V y v')) (hg : w.grownBy w' (some mb)) :
    GR lo w' mb (nn + 1) (mset V y v') (fun q => if q = y then ts else M q) := by
  obtain ⟨-, h2, h3, h4⟩ := h
  have hby : ∀ z, Lt z → Tw w' (gv V z) (M z) := fun z hz => (h2 z hz).1.by hg (fun c hc e => by
    injection e with e
    exact ((h2 z hz).2 c hc).2 e.symm)
  refine ⟨hm, fun z hz => ?_, h3, Nat.le_trans h4 hg.size⟩
  by_cases e : z = y
  · subst e
    have eg : gv (mset V z v') z = v' := by unfold gv mset; rw [if_pos rfl]; rfl
    rw [eg, if_pos rfl, hv']
    have ht := hby z hz
    rw [hv, hM] at ht
    have hb := (h2 z hz).2 b (by rw [hv]; rfl)
    exact ⟨ht.rest, fun c hc => by rw [sliced_blk c hc]; exact hb⟩
  · have eg : gv (mset V y v') z = gv V z := by unfold gv mset; rw [if_neg e]
    rw [eg, if_neg e]
    exact ⟨hby z hz, (h2 z hz).2⟩
theorem GR.more {lo : Nat} {w : World} {mb nn : Nat} {V : List Nat → Option Value} {M : List Nat → List Tx} (h : GR lo w mb nn V M) : GR lo w mb (nn + 1) V M := by
  obtain ⟨⟨sz, D, h1, h1b⟩, h2, h3, h4⟩ := h
  exact ⟨⟨sz, D, h1.mono (by omega), h1b⟩, h2, h3, h4⟩
theorem GR.congr {lo : Nat} {w : World} {mb nn : Nat} {V : List Nat → Option Value} {M M' : List Nat → List Tx} (h : GR lo w mb nn V M) (e : ∀ y, M y = M' y) : GR lo w mb nn V M' := by
  have : M = M' := funext e
  rw [← this]; exact h
/-- A store to the map, as a step of a walk; the number of entries is not told. -/
theorem wpList_mvputE {w : World} {ops : Array Oper} {rest : List Oper} {o : Oper} {a : Act} {Q : Exit → Act → World → Prop} (hg : o.guard = none) (t : TypeId) (m x v : Operand) (hop : o.op = Op.mapUpdate t m x v) {e : TypeId} (ht : Tryz.prog.underlying t = some (.map 9 e))
    {b n : Nat} {M : List Nat → Option Value} (hm : a.eval m = .map (some b)) (h : ∃ sz, MV w b n sz M) (hn : n ≤ 1000000) (k : List Nat) (hk : Lt k) (hl : k.length ≤ maxLen) (hx : a.eval x = .string (st k)) (u : Value) (hv : a.eval v = u)
    (hK : ∀ w', (∃ sz, MV w' b (n + 1) sz (mset M k u)) → w.grownBy w' (some b) → wpList Tryz.prog ops Q rest (a.put o.dst undef) w') : wpList Tryz.prog ops Q (o :: rest) a w := by
  obtain ⟨sz, h⟩ := h
  exact wpList_mvput hg t m x v hop ht hm h hn k hk hl hx u hv fun w' h1 h2 => hK w' ⟨_, h1⟩ h2
/-- A store to the map, as a step of a drawn region. -/
theorem step_mvput {wx : World} {ops : Array Oper} {o : Oper} {a : Act} {K : Act → World → Prop} {Q : Exit → Act → World → Prop} {E : Prop} (hgd : o.guard = none) (t : TypeId) (m x v : Operand) (hop : o.op = Op.mapUpdate t m x v) {e : TypeId} (ht : Tryz.prog.underlying t = some (.map 9 e))
    {b n : Nat} {M : List Nat → Option Value} (hm : a.eval m = .map (some b)) (hn : n ≤ 1000000) (h : ∃ sz, MV wx b n sz M) (k : List Nat) (hk : Lt k) (hl : k.length ≤ maxLen) (hx : a.eval x = .string (st k)) (u : Value) (hv : a.eval v = u)
    (hK : ∀ w', (∃ sz, MV w' b (n + 1) sz (mset M k u)) → wx.grownBy w' (some b) → K (a.put o.dst undef) w') :
    if Region.wanted o (yielded ops a.tmps) = true then Oper.wp Tryz.prog o a wx K Q else E := by
  have hw : Region.wanted o (yielded ops a.tmps) = true := by simp [Region.wanted, hgd]
  rw [if_pos hw]
  obtain ⟨sz, h⟩ := h
  obtain ⟨w', hrun, r1, r2⟩ := h.put hn ht hk hl u
  unfold Oper.wp
  simp [execOp, hop, hm, hx, hv, hrun, Result.andThen]
  exact hK w' ⟨_, r1⟩ r2
/-- A lookup in the map, as a step. -/
theorem step_mvget {wx : World} {ops : Array Oper} {o : Oper} {a : Act} {K : Act → World → Prop} {Q : Exit → Act → World → Prop} {E : Prop} (hgd : o.guard = none) (t : TypeId) (m x : Operand) (hop : o.op = Op.lookup t m x false)
    {b : Nat} {s : ByteArray} {u : Value} (hm : a.eval m = .map (some b)) (hx : a.eval x = .string s) (hr : (Instr.lookup t (.map (some b)) (.string s) false).run Tryz.prog wx = .ok u wx)
    (hK : K (a.put o.dst u) wx) : if Region.wanted o (yielded ops a.tmps) = true then Oper.wp Tryz.prog o a wx K Q else E := by
  have hw : Region.wanted o (yielded ops a.tmps) = true := by simp [Region.wanted, hgd]
  rw [if_pos hw]
  unfold Oper.wp
  simp [execOp, hop, hm, hx, hr, Result.andThen]
  exact hK
end By
end Go.Proofs.YtfobogcccbddbaaGreatDoor

/- The first one of the paths with some bytes is taken, as the program does it. Condition: the map's rows read as the paths that are named. -/
namespace Go.Proofs.YtfobogcccbddbaaGreatDoor
namespace By
open Go.RowKit WireN LexN RevN FdN CtN
set_option linter.unusedVariables false
set_option linter.unusedSimpArgs false

/-- What takeFirst answers, and what is left. -/
def TakeR (lo : Nat) (w : World) (mb nn : Nat) (M : List Nat → List Tx) (y : List Nat) (e : Ending) (w' : World) : Prop :=
  e = .returned (.tuple #[.string (st ((M y).headD [])), .bool (!(M y).isEmpty)]) ∧ (∃ V', GR lo w' mb (nn + 1) V' (fun q => if q = y then (M y).tail else M q)) ∧ w.grownBy w' (some mb)
set_option maxRecDepth 100000 in
set_option maxHeartbeats 2000000 in
theorem takeFirst_any {lo : Nat} {w : World} {mb nn : Nat} {V : List Nat → Option Value} {M : List Nat → List Tx} (h : GR lo w mb nn V M) (hn : nn ≤ 1000000) {y : List Nat} (hy : Lt y) (hl : y.length ≤ maxLen) :
    Calls Tryz.prog 59 #[.map (some mb), .string (st y)] w (TakeR lo w mb nn M y) := by
  obtain ⟨Q, hQ⟩ : ∃ Q : Ending → World → Prop, Q = TakeR lo w mb nn M y := ⟨_, rfl⟩
  rw [← hQ]
  have q0 := h.get hy hl
  have hrow := (h.row y hy).1
  obtain ⟨ts, hts⟩ : ∃ ts, ts = M y := ⟨_, rfl⟩
  obtain ⟨gvy, hgvy⟩ : ∃ v, v = gv V y := ⟨_, rfl⟩
  rw [← hgvy] at hrow q0
  rw [← hts] at hrow
  obtain ⟨S, hS⟩ : ∃ S, S = st y := ⟨_, rfl⟩
  have H := Lib.hid h; have HN := Lib.hid hn
  cases ts with
  | nil =>
    have FIN : Hid (Q (.returned (.tuple #[.string ⟨#[]⟩, .bool false])) w) := Lib.hid (by
      rw [hQ]
      refine ⟨by rw [← hts]; rfl, ⟨V, H.out.more.congr fun q => ?_⟩, ⟨rfl, rfl, rfl, Nat.le_refl _, fun i _ _ => rfl⟩⟩
      by_cases e : q = y
      · rw [if_pos e, e, ← hts]; rfl
      · rw [if_neg e])
    obtain ⟨ao, cap, rfl, -, -, -⟩ := hrow.open3
    rw [← hS] at q0 ⊢
    clear hQ h hrow hts hgvy hS hn hy hl
    simp only [List.length_nil] at q0
    go_enter Tryz.func59, Tryz.ntmps59
    go_wp2_with fail
    exact FIN.out
  | cons x ts =>
    obtain ⟨ao, cap, hv, hcap, hmax, -⟩ := hrow.open3
    rw [hv] at hrow hgvy q0
    obtain ⟨n, hnl⟩ : ∃ n, n = (x :: ts).length := ⟨_, rfl⟩
    rw [← hnl] at hrow hgvy q0 hcap
    have hn1 : 1 ≤ n := by rw [hnl]; simp
    obtain ⟨b, off, rfl, hcell⟩ := hrow.cell (by omega)
    have d0 := hcell 0 x rfl
    rw [Nat.add_zero] at d0
    obtain ⟨u, hu⟩ : ∃ u, u = sliced (some ⟨b, off, none⟩) 1 n cap 1 := ⟨_, rfl⟩
    have qs : ∀ W, (Instr.slice 74 (.slice (some ⟨b, off, none⟩) n cap) (some (.int .i64 1)) none none).run Tryz.prog W = .ok u W := fun W => by rw [hu]; exact slice_rest _ n cap hn1 W
    have HU := Lib.hid hu
    have HM : Hid (∃ sz, MV w mb nn sz V) := Lib.hid h.mv
    have HY := Lib.hid hy; have HL := Lib.hid hl; have HS := Lib.hid hS
    have HBN : Hid (b ≠ mb) := Lib.hid (((h.row y hy).2 b (by show (gv V y).ownBlock = _; rw [← hgvy]; rfl)).2)
    obtain ⟨X, hX⟩ : ∃ X, X = st x := ⟨_, rfl⟩
    rw [← hX] at d0
    have HC := Lib.hid d0
    have FIN : Hid (∀ w', (∃ sz', MV w' mb (nn + 1) sz' (mset V y u)) → w.grownBy w' (some mb) → Q (.returned (.tuple #[.string X, .bool true])) w') := Lib.hid (by
      intro w' h1 h2
      rw [hQ]
      refine ⟨by rw [← hts, hX]; rfl, ⟨_, (H.out.take hy hts.symm hgvy.symm hu h1 h2).congr fun q => ?_⟩, h2⟩
      by_cases e : q = y
      · rw [if_pos e, if_pos e, ← hts]; rfl
      · rw [if_neg e, if_neg e])
    have i1 : (1 : Int) ≤ (n : Int) := by omega
    have i2 : (n : Int) ≤ (cap : Int) := by omega
    have i3 : ((n : Int) == 0) = false := by simp; omega
    rw [← hS] at q0 ⊢
    clear hQ h hrow hts hgvy hS hn hy hl hcell hv hu hX hnl hcap hmax hn1
    go_enter Tryz.func59, Tryz.ntmps59
    go_wp2_with (at_mapUpdate; refine wpList_mvputE rfl _ (.tmp 13) (.tmp 14) (.tmp 16) rfl underSR rfl HM.out HN.out y HY.out HL.out (by rw [← HS.out]; rfl) u rfl ?_)
    intro w7 sz7 km7 g7
    have K7 : Hid (∃ sz, MV w7 mb (nn + 1) sz (mset V y u)) := Lib.hid ⟨sz7, km7⟩; have G7 := Lib.hid g7
    have d7 : w7.cell? ⟨b, off, none⟩ = some (.string X) := by
      have h0 := HC.out
      have hlt := World.block_lt_of_cell? w _ h0
      have hh := g7.block b hlt (fun e => HBN.out (by injection e))
      unfold World.cell? at h0 ⊢
      rw [hh]
      exact h0
    clear km7 g7 d0
    go_wp2_with fail
    exact FIN.out _ K7.out G7.out
end By
end Go.Proofs.YtfobogcccbddbaaGreatDoor

/- A text appended, and one text as a slice, as steps of a drawn region. No condition. -/
namespace Go.Proofs.YtfobogcccbddbaaGreatDoor
namespace By
open Go.RowKit WireN CtN
set_option linter.unusedVariables false
set_option linter.unusedSimpArgs false

/-- append of a text to a row of one's own, as a step of a region. -/
theorem step_tx {w wx : World} {ops : Array Oper} {o : Oper} {a : Act} {K : Act → World → Prop} {Q : Exit → Act → World → Prop} {E : Prop} (hgd : o.guard = none) (s x : Operand)
    (ho : o.op = .call { callee := .builtin .append, args := #[s, x], argTypes := #[74, 74] })
    (v : Value) {ts : List Tx} (hs : a.eval s = v) (hown : OwT w wx v ts) (hsm : ts.length ≤ 1000000) (k : Tx) (hf : TxOk k) (g : Nat) (hx : a.eval x = .slice (some ⟨g, 0, none⟩) 1 1)
    (hc : Blk wx g 9 #[.string (st k)])
    (h : ∀ v' w', OwT w w' v' (ts ++ [k]) → wx.grownBy w' v.ownBlock → (v'.ownBlock = v.ownBlock ∨ v'.ownBlock = some wx.heap.size) → K (a.put o.dst v') w') :
    if Region.wanted o (yielded ops a.tmps) = true then Oper.wp Tryz.prog o a wx K Q else E := by
  have hw : Region.wanted o (yielded ops a.tmps) = true := by simp [Region.wanted, hgd]
  rw [if_pos hw]
  obtain ⟨i, hi, hz, hsize, hby⟩ := info_parts infoTx
  obtain ⟨v', w', hr, h2, h3, h4, h5⟩ := run_append_own_at (P := Tryz.prog) wx w.heap.size 74 o.type 9 i _ 1 16 Tryz.underlying74 hi hz hsize hby rfl (by omega) v ts.length (tcel ts) hown.owns ⟨g, 0, none⟩ 1 1 [.string (st k)] rfl (fun j u hu => by
    rw [Addr.add_lit]
    refine hc.cell (0 + j) ?_
    rw [Nat.zero_add]
    simpa using hu) (fun u hu => by
    simp at hu
    subst hu
    rfl) (by unfold maxLen; omega) (by omega) hown.kp.size
  unfold Oper.wp
  simp [execOp, ho, resolve, invoke, builtin, hs, hx, hr, Result.andThen]
  refine h v' w' ⟨by rw [List.length_append, tcel_snoc]; exact h2, fun y hy => ?_, Below.grown hown.kp h3 hown.kp.size (fun k hk => ((row_frc hown.owns).2 k hk).1)⟩ h3 h5
  rcases List.mem_append.1 hy with hy | hy
  · exact hown.ok y hy
  · obtain rfl : y = k := by simpa using hy
    exact hf
theorem step_bldT {wx : World} {ops : Array Oper} {o : Oper} {a : Act} {K : Act → World → Prop} {Q : Exit → Act → World → Prop} {E : Prop} (hgd : o.guard = none) (k j : Tmp)
    (ho : o.op = .buildSlice 74 1 #[(0, .tmp j)]) (hdst : o.dst = some k) {u : ByteArray} (hx : a.eval (.tmp j) = .string u)
    (h : ∀ w', w' = wx.alloc (.cells #[.string u] 9) → K (a.put (some k) (.slice (some ⟨wx.heap.size, 0, none⟩) 1 1)) w') :
    if Region.wanted o (yielded ops a.tmps) = true then Oper.wp Tryz.prog o a wx K Q else E := by
  have hw : Region.wanted o (yielded ops a.tmps) = true := by simp [Region.wanted, hgd]
  rw [if_pos hw]
  have hP := h _ rfl
  unfold Oper.wp
  have hx' : a.tmps[j]?.getD undef = .string u := by simpa [Act.eval] using hx
  simp [execOp, ho, resolve, hdst, hx', go_sem, Result.andThen]
  exact hP
end By
end Go.Proofs.YtfobogcccbddbaaGreatDoor

/- append of the changes of a slice. No condition. -/
namespace Go.Proofs.YtfobogcccbddbaaGreatDoor
namespace By
open Go.RowKit WireN LexN RevN FdN
set_option linter.unusedVariables false
set_option linter.unusedSimpArgs false

/-- The cells of the changes one by one. -/
theorem ccel_cell {w : World} {b off : Nat} {us : List Ch} (hc : ∀ (j : Nat) (x : Ch), us[j]? = some x → C4 w b (off + j * 4) x) : ∀ (j : Nat) (u : Value), (ccel us)[j]? = some u → w.cell? ⟨b, off + j, none⟩ = some u := by
  intro j u hj
  have hlen := ccel_len us
  have hjl : j < 4 * us.length := by rw [← hlen]; exact (List.getElem?_eq_some_iff.1 hj).1
  obtain ⟨x, hx⟩ : ∃ x, us[j / 4]? = some x := ⟨_, List.getElem?_eq_getElem (by omega)⟩
  obtain ⟨c0, c1, c2, c3⟩ := hc (j / 4) x hx
  obtain ⟨e0, e1, e2, e3⟩ := ccel_at us (j / 4) x hx
  obtain h | h | h | h : j % 4 = 0 ∨ j % 4 = 1 ∨ j % 4 = 2 ∨ j % 4 = 3 := by omega
  · have hj2 : j / 4 * 4 = j := by omega
    rw [hj2] at c0 e0
    rw [← hj, e0, c0]
  · have hj2 : j / 4 * 4 + 1 = j := by omega
    rw [hj2] at e1
    rw [Nat.add_assoc, hj2] at c1
    rw [← hj, e1, c1]
  · have hj2 : j / 4 * 4 + 2 = j := by omega
    rw [hj2] at e2
    rw [Nat.add_assoc, hj2] at c2
    rw [← hj, e2, c2]
  · have hj2 : j / 4 * 4 + 3 = j := by omega
    rw [hj2] at e3
    rw [Nat.add_assoc, hj2] at c3
    rw [← hj, e3, c3]
theorem ccel_flat {us : List Ch} : ∀ u ∈ ccel us, (∃ z, u = .int .i64 z) ∨ ∃ s, u = .string s := by
  intro u hu
  simp only [ccel, List.mem_flatMap] at hu
  obtain ⟨x, _, hu⟩ := hu
  simp at hu
  rcases hu with rfl | rfl | rfl | rfl
  · exact .inl ⟨_, rfl⟩
  · exact .inr ⟨_, rfl⟩
  · exact .inr ⟨_, rfl⟩
  · exact .inr ⟨_, rfl⟩
/-- append of all changes of a slice to a row of one's own. -/
theorem wpList_chs {w wx : World} {ops : Array Oper} {rest : List Oper} {o : Oper} {a : Act} {Q : Exit → Act → World → Prop} (hgd : o.guard = none) (s x : Operand)
    (ho : o.op = .call { callee := .builtin .append, args := #[s, x], argTypes := #[33, 33] })
    (v : Value) {ks : List Ch} (hs : a.eval s = v) (hown : OwC w wx v ks) (hsm : ks.length ≤ 1000000) {us : List Ch} (hu1 : us.length ≤ 1000000) (hu0 : 0 < us.length) (g off cap : Nat) (hx : a.eval x = .slice (some ⟨g, off, none⟩) us.length cap)
    (hT : Cw wx (.slice (some ⟨g, off, none⟩) us.length cap) us)
    (h : ∀ v' w', OwC w w' v' (ks ++ us) → wx.grownBy w' v.ownBlock → (v'.ownBlock = v.ownBlock ∨ v'.ownBlock = some wx.heap.size) → wpList Tryz.prog ops Q rest (a.put o.dst v') w') : wpList Tryz.prog ops Q (o :: rest) a wx := by
  obtain ⟨i, hi, hz, hsize, hby⟩ := info_parts infoCh
  obtain ⟨b, off', e, hcell⟩ := hT.cell hu0
  injection e with e
  injection e with e1 e2
  subst e1 e2
  have hcu : (ccel us).length = 4 * us.length := ccel_len us
  refine wpList_append_own_at (P := Tryz.prog) wx hgd s x _ ho w.heap.size _ i _ 4 56 Tryz.underlying33 hi hz hsize hby rfl (by omega) v ks.length (ccel ks) hs hown.owns ⟨g, off, none⟩ us.length cap (ccel us) hx (by rw [hcu]; omega) ?_ ?_ (by unfold maxLen; omega) (by omega) hown.kp.size ?_
  · intro j u hu
    rw [Addr.add_lit]
    exact ccel_cell hcell j u hu
  · intro u hu
    rcases ccel_flat u hu with ⟨z, rfl⟩ | ⟨z, rfl⟩ <;> rfl
  · intro v' w' h1 h2 h3 h4
    refine h v' w' ⟨?_, ?_, Below.grown hown.kp h2 hown.kp.size (fun k hk => ((row_form hown.owns).2 k hk).1)⟩ h2 h4
    · rw [List.length_append, ccel_app]; exact h1
    · intro y hy
      rcases List.mem_append.1 hy with hy | hy
      · exact hown.ok y hy
      · exact hT.ok y hy
/-- append of all changes of a slice to no row at all: a copy. -/
theorem wpList_cl4 {wx : World} {ops : Array Oper} {rest : List Oper} {o : Oper} {a : Act} {Q : Exit → Act → World → Prop} (hgd : o.guard = none) (s x : Operand)
    (ho : o.op = .call { callee := .builtin .append, args := #[s, x], argTypes := #[33, 33] })
    (hs : a.eval s = .slice none 0 0) {v : Value} {us : List Ch} (hx : a.eval x = v) (hT : Cw wx v us) (hu1 : us.length ≤ 1000000)
    (h : ∀ v' w', OwC wx w' v' us → wpList Tryz.prog ops Q rest (a.put o.dst v') w') : wpList Tryz.prog ops Q (o :: rest) a wx := by
  obtain ⟨ao, cap, rfl, hc, hm, hnone⟩ := hT.open3
  by_cases h0 : us = []
  · subst h0
    cases ao with
    | none =>
      obtain rfl : cap = 0 := hnone rfl
      obtain ⟨i, hi, hz, hsize, hby⟩ := info_parts infoCh
      exact wpList_append_own_none hgd s x _ ho wx.heap.size _ i 4 Tryz.underlying33 hi _ 0 [] hs (World.ownsRow_nil _ _ _ _) hx (h _ _ (OwC.start wx))
    | some ad =>
      obtain ⟨i, hi, hz, hsize, hby⟩ := info_parts infoCh
      refine wpList_append_own_at (P := Tryz.prog) wx hgd s x _ ho wx.heap.size _ i _ 4 56 Tryz.underlying33 hi hz hsize hby rfl (by omega) _ 0 [] hs (World.ownsRow_nil _ _ _ _) ad 0 cap [] hx rfl (fun j u hu => by simp at hu) (fun u hu => by simp at hu) (by unfold maxLen; omega) (by omega) (Nat.le_refl _) ?_
      intro v' w' h1 h2 h3 h4
      exact h v' w' ⟨h1, fun y hy => by simp at hy, Below.grown (Kp.refl _) h2 (Nat.le_refl _) (fun k hk => by simp [Value.ownBlock] at hk)⟩
  · have hpos : 0 < us.length := List.length_pos_iff.2 h0
    obtain ⟨b, off, rfl, -⟩ := hT.cell hpos
    refine wpList_chs (w := wx) hgd s x ho _ hs (OwC.start wx) (by simp) hu1 hpos b off cap hx hT ?_
    intro v' w' h1 h2 h3
    exact h v' w' (by simpa using h1)
/-- A row of one's own behind a place, whatever else has changed. -/
structure OwD (lo : Nat) (wr : World) (v : Value) (ks : List Ch) : Prop where
  owns : wr.ownsRow lo 50 4 v ks.length (ccel ks)
  ok : ∀ x ∈ ks, ChOk x
theorem OwC.d {w wr : World} {v : Value} {ks : List Ch} (h : OwC w wr v ks) : OwD w.heap.size wr v ks := ⟨h.owns, h.ok⟩
theorem OwD.cw {lo : Nat} {wr : World} {v : Value} {ks : List Ch} (h : OwD lo wr v ks) : Cw wr v ks := by
  refine ⟨?_, h.ok⟩
  rcases h.owns.2 with ⟨rfl, h0⟩ | ⟨g, cap, cur, rfl, hb, hg, hnc, hcm, hsz, htake⟩
  · exact ⟨none, 0, by rw [h0], by omega, by unfold maxLen; omega, .inl (List.length_eq_zero_iff.1 h0), fun _ => rfl⟩
  · refine ⟨some ⟨g, 0, none⟩, cap, rfl, hnc, hcm, .inr ⟨g, 0, rfl, fun j f hf => ?_⟩, fun h => nomatch h⟩
    have hj : j < ks.length := (List.getElem?_eq_some_iff.1 hf).1
    obtain ⟨h1, h2, h3, h4⟩ := ccel_at ks j f hf
    have hcl := ccel_len ks
    refine ⟨?_, ?_, ?_, ?_⟩
    · rw [Nat.zero_add, cell_of_row wr g (j * 4) cur _ (0, 0) hg]
      rw [← htake, List.getElem?_take, if_pos (by omega)] at h1
      simpa using h1
    · rw [Nat.zero_add, cell_of_row wr g (j * 4 + 1) cur _ (0, 0) hg]
      rw [← htake, List.getElem?_take, if_pos (by omega)] at h2
      simpa using h2
    · rw [Nat.zero_add, cell_of_row wr g (j * 4 + 2) cur _ (0, 0) hg]
      rw [← htake, List.getElem?_take, if_pos (by omega)] at h3
      simpa using h3
    · rw [Nat.zero_add, cell_of_row wr g (j * 4 + 3) cur _ (0, 0) hg]
      rw [← htake, List.getElem?_take, if_pos (by omega)] at h4
      simpa using h4
theorem OwD.newer {lo : Nat} {wr : World} {v : Value} {ks : List Ch} (h : OwD lo wr v ks) : ∀ b, v.ownBlock = some b → lo ≤ b := fun b hb => ((row_form h.owns).2 b hb).1
theorem OwD.gr {lo g : Nat} {wr w1 : World} {v : Value} {ks : List Ch} (h : OwD lo wr v ks) (hg : Gr g wr w1) (hl : g < lo) : OwD lo w1 v ks := by
  refine ⟨World.ownsRow.kept (row := some g) h.owns hg ?_, h.ok⟩
  rcases h.owns.2 with ⟨rfl, _⟩ | ⟨g', cap', cur, rfl, hb', _⟩
  · exact .inl rfl
  · right; intro e; have := h.newer g' rfl; have : g = g' := by simpa [Value.ownBlock] using e.symm
    omega
/-- append of a change to such a row. -/
theorem wpList_chd {lo : Nat} {wx : World} {ops : Array Oper} {rest : List Oper} {o : Oper} {a : Act} {Q : Exit → Act → World → Prop} (hgd : o.guard = none) (s x : Operand)
    (ho : o.op = .call { callee := .builtin .append, args := #[s, x], argTypes := #[33, 33] })
    (v : Value) {ks : List Ch} (hs : a.eval s = v) (hown : OwD lo wx v ks) (hlo : lo ≤ wx.heap.size) (hsm : ks.length ≤ 1000000) (k : Ch) (hf : ChOk k) (g : Nat) (hx : a.eval x = .slice (some ⟨g, 0, none⟩) 1 1)
    (hc : Blk wx g 50 #[.int .i64 k.1, .string (st k.2.1), .string (st k.2.2.1), .string (st k.2.2.2)])
    (h : ∀ v' w', OwD lo w' v' (ks ++ [k]) → wx.grownBy w' v.ownBlock → (v'.ownBlock = v.ownBlock ∨ v'.ownBlock = some wx.heap.size) → wpList Tryz.prog ops Q rest (a.put o.dst v') w') : wpList Tryz.prog ops Q (o :: rest) a wx := by
  obtain ⟨i, hi, hz, hsize, hby⟩ := info_parts infoCh
  refine wpList_append_own_at (P := Tryz.prog) wx hgd s x _ ho lo _ i _ 4 56 Tryz.underlying33 hi hz hsize hby rfl (by omega) v ks.length (ccel ks) hs hown.owns ⟨g, 0, none⟩ 1 1 [.int .i64 k.1, .string (st k.2.1), .string (st k.2.2.1), .string (st k.2.2.2)] hx rfl ?_ ?_ (by unfold maxLen; omega) (by omega) hlo ?_
  · intro j u hu
    rw [Addr.add_lit]
    refine hc.cell (0 + j) ?_
    rw [Nat.zero_add]
    simpa using hu
  · intro u hu
    simp at hu
    rcases hu with rfl | rfl | rfl | rfl <;> rfl
  · intro v' w' h1 h2 h3 h4
    refine h v' w' ⟨?_, ?_⟩ h2 h4
    · rw [List.length_append, ccel_snoc]; exact h1
    · intro y hy
      rcases List.mem_append.1 hy with hy | hy
      · exact hown.ok y hy
      · obtain rfl : y = k := by simpa using hy
        exact hf
end By
end Go.Proofs.YtfobogcccbddbaaGreatDoor
