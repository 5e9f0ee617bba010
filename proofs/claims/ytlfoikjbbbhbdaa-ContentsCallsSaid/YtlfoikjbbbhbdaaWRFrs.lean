/- The reference's Frames: the frames in order, where they end, the error. Condition: the slice holds the bytes that are named. -/
import Derived.Test.YtlfoikjbbbhbdaaWRNext
import Derived.Test.YtlfoikjbbbhbdaaWFrs
import Derived.Maps.AppendAt
namespace Go.Proofs.Ytlfoikjbbbhbdaa
namespace By
open Go.RowKit Go.Shelf WireN
set_option linter.unusedVariables false
set_option linter.unusedSimpArgs false

/-- The reference's frames so far, in a row of the call's own. -/
structure RF (w W : World) (xs : List Nat) (q : Nat) (vo : Value) (fs : List (Nat × List Nat)) (vps : List Value) : Prop where
  ch : Chain xs 0 fs q
  le : q ≤ xs.length
  ln : vps.length = fs.length
  few : fs.length ≤ q
  sl : ∀ (j : Nat) (x : Nat × List Nat) (v : Value), fs[j]? = some x → vps[j]? = some v → Sl W v x.2 ∧ ∀ g, vo.ownBlock = some g → Off g v x.2
  own : W.ownsRow w.heap.size 80 2 vo fs.length (fcells fs vps)
  kp : Kp w W
theorem RF.start (w : World) (xs : List Nat) : RF w w xs 0 (.slice none 0 0) [] [] :=
  ⟨rfl, Nat.zero_le _, rfl, Nat.le_refl _, fun j x v hx => by simp at hx, World.ownsRow_nil _ _ _ _, Kp.refl _⟩
theorem RF.keep {w W W' : World} {xs : List Nat} {q : Nat} {vo : Value} {fs : List (Nat × List Nat)} {vps : List Value} (h : RF w W xs q vo fs vps) (hk : Kp W W') : RF w W' xs q vo fs vps := by
  refine ⟨h.ch, h.le, h.ln, h.few, fun j x v hx hv => ⟨(h.sl j x v hx hv).1.keep hk, (h.sl j x v hx hv).2⟩, ?_, Kp.trans h.kp hk⟩
  refine World.ownsRow.kept (row := none) h.own ⟨hk.os, hk.tape, hk.output, hk.size, fun i hi _ => hk.block i hi⟩ ?_
  rcases h.own.2 with ⟨rfl, _⟩ | ⟨g', cap', cur, rfl, hb', _⟩
  · exact .inl rfl
  · right; intro e; simp [Value.ownBlock] at e
theorem RF.add {w W w' : World} {xs : List Nat} {q : Nat} {vo v' V : Value} {fs : List (Nat × List Nat)} {vps : List Value} {K NX : Nat} {PL : List Nat} (h : RF w W xs q vo fs vps) (hql : q < xs.length)
    (hnx : nx xs (q : Nat) = (K, PL, NX, 0)) (hs : Sl W V PL) (hoff : ∀ g, vo.ownBlock = some g → Off g V PL) (hg : W.grownBy w' vo.ownBlock)
    (hr : w'.ownsRow w.heap.size 80 2 v' (fs.length + 1) (fcells fs vps ++ [.int .i64 (K : Nat), V]))
    (hb : v'.ownBlock = vo.ownBlock ∨ v'.ownBlock = some W.heap.size) : RF w w' xs NX v' (fs ++ [(K, PL)]) (vps ++ [V]) := by
  have hm := nx_more (l := xs) (q := q) (by rw [hnx])
  have hch := h.ch.snoc hql (by rw [hnx])
  rw [hnx] at hm hch
  simp only at hm hch
  have hsl : ∀ (v : Value) (ys : List Nat), Sl W v ys → (∀ g, vo.ownBlock = some g → Off g v ys) → Sl w' v ys ∧ ∀ g, v'.ownBlock = some g → Off g v ys := by
    intro v ys h1 h2
    refine ⟨h1.grown hg h2, fun g e => ?_⟩
    rcases hb with hb | hb
    · exact h2 g (hb ▸ e)
    · rw [hb] at e; injection e with e; subst e; exact h1.off_new
  refine ⟨hch, hm.2, by simp [h.ln], by have := h.few; simp; omega, fun j x v hx hv => ?_, ?_, Below.grown h.kp hg h.kp.size (fun k hk => ((row_form h.own).2 k hk).1)⟩
  · rcases Nat.lt_trichotomy j fs.length with hj | hj | hj
    · rw [List.getElem?_append_left hj] at hx
      rw [List.getElem?_append_left (by rw [h.ln]; exact hj)] at hv
      exact hsl _ _ (h.sl j x v hx hv).1 (h.sl j x v hx hv).2
    · subst hj
      rw [List.getElem?_append_right (Nat.le_refl _)] at hx
      rw [List.getElem?_append_right (by rw [h.ln]; exact Nat.le_refl _), h.ln] at hv
      simp at hx hv
      subst hx hv
      exact hsl _ _ hs hoff
    · rw [List.getElem?_eq_none (by simp; omega)] at hx; cases hx
  · rw [fcells_snoc _ _ _ _ h.ln, List.length_append]
    exact hr
/-- append of a frame to the row. -/
theorem wpList_fr {w wx : World} {ops : Array Oper} {rest : List Oper} {o : Oper} {a : Act} {Q : Exit → Act → World → Prop} (hgd : o.guard = none) (s x : Operand)
    (ho : o.op = .call { callee := .builtin .append, args := #[s, x], argTypes := #[81, 81] })
    {xs : List Nat} {q : Nat} (v : Value) {fs : List (Nat × List Nat)} {vps : List Value} (hs : a.eval s = v) (hown : RF w wx xs q v fs vps) (hql : q < xs.length) (hsm : xs.length ≤ 1000000)
    {K NX : Nat} {PL : List Nat} (hnx : nx xs (q : Nat) = (K, PL, NX, 0)) (ao : Option Addr) (n c : Nat) (g : Nat) (hx : a.eval x = .slice (some ⟨g, 0, none⟩) 1 1)
    (hc : Blk wx g 80 #[.int .i64 (K : Nat), .slice ao n c]) (hV : Sl wx (.slice ao n c) PL) (hoff : ∀ b, v.ownBlock = some b → Off b (.slice ao n c) PL)
    (h : ∀ v' w', RF w w' xs NX v' (fs ++ [(K, PL)]) (vps ++ [.slice ao n c]) → wpList Try.prog ops Q rest (a.put o.dst v') w') : wpList Try.prog ops Q (o :: rest) a wx := by
  obtain ⟨i, hi, hz, hsize, hby⟩ := info_parts infoF
  have hfew := hown.few; have hle := hown.le
  refine wpList_append_own_at (P := Try.prog) wx hgd s x _ ho w.heap.size _ i _ 2 32 Try.underlying81 hi hz hsize hby rfl (by omega) v fs.length (fcells fs vps) hs hown.own ⟨g, 0, none⟩ 1 1 [.int .i64 (K : Nat), .slice ao n c] hx rfl ?_ ?_ (by unfold maxLen; omega) (by omega) hown.kp.size ?_
  · intro j u hu
    rw [Addr.add_lit]
    refine hc.cell (0 + j) ?_
    rw [Nat.zero_add]
    simpa using hu
  · intro u hu
    simp at hu
    rcases hu with rfl | rfl <;> rfl
  · intro v' w' h1 h2 h3 h4
    exact h v' w' (hown.add hql hnx hV hoff h2 h1 h4)
/-- What the reference's Frames leaves. -/
structure RFrmR (xs : List Nat) (w : World) (e : Ending) (w' : World) : Prop where
  ex : ∃ (fs : List (Nat × List Nat)) (vps : List Value) (q E : Nat) (vo : Value), Stops xs q E ∧ e = .returned (.tuple #[vo, .int .i64 (q : Nat), .int .i64 (E : Nat)]) ∧ RF w w' xs q vo fs vps

set_option maxRecDepth 100000 in
set_option maxHeartbeats 2000000 in
theorem rFrames_any {v : Value} {xs : List Nat} {w : World} (hs : Sl w v xs) (hsm : xs.length ≤ 1000000) :
    Calls Try.prog 54 #[v] w (RFrmR xs w) := by
  obtain ⟨ao, cap, rfl, -, -, -⟩ := hs.open3
  obtain ⟨len, hlen⟩ : ∃ len, len = xs.length := ⟨_, rfl⟩
  rw [← hlen] at hs ⊢
  obtain ⟨R, hR⟩ : ∃ R, R = RFrmR xs w := ⟨_, rfl⟩
  have HR := Lib.hid hR
  have HS := Lib.hid hs; have HL := Lib.hid hlen; have HSM := Lib.hid hsm
  have hlb : (len : Int) ≤ 1000000 := by omega
  rw [← hR]
  clear hR hs hlen hsm
  go_enter Try.func54, Try.ntmps54
  go_wp2_with fail
  go_loopw [2, 3] (fun v p wr => ∃ (q : Nat) (fs : List (Nat × List Nat)) (vps : List Value), p = .int .i64 q ∧ RF w wr xs q v fs vps) (fun _ p _ => len - (intOf p).toNat)
  case atStart => exact ⟨0, [], [], rfl, RF.start w xs⟩
  case round =>
    obtain ⟨q, fs, vps, rfl, hrow⟩ := hrel
    rename World => wx
    have HROW := Lib.hid hrow
    obtain ⟨⟨aq, lq, cq, hv⟩, hwb⟩ := row_form hrow.own
    subst hv
    have HWB := Lib.hid hwb
    have HQL : Hid (q ≤ len) := Lib.hid (by have := hrow.le; have := HL.out; omega)
    have hql : (q : Int) ≤ (len : Int) := by have := HQL.out; omega
    clear hrow hwb
    by_cases hqn : q < len
    · have HQX : Hid (q < xs.length) := Lib.hid (by have := HL.out; omega)
      go_wp2_with fail
      refine (rNext_in (HS.out.keep HROW.out.kp) q (Nat.le_of_lt HQX.out) HSM.out).mono ?_
      rintro e w2 ⟨⟨vp, rfl, hsp, hnp⟩, hk2⟩
      obtain ⟨⟨K, PL, NX, E⟩, hnx⟩ : ∃ r, nx xs (q : Nat) = r := ⟨_, rfl⟩
      rw [hnx] at hsp ⊢
      simp only at hsp ⊢
      have HNX := Lib.hid hnx
      obtain ⟨ao2, c2, rfl, -, -, -⟩ := hsp.open3
      obtain ⟨L2, hL2⟩ : ∃ L2, L2 = PL.length := ⟨_, rfl⟩
      rw [← hL2] at hsp hnp ⊢
      have HSP := Lib.hid hsp; have HNP := Lib.hid hnp; have HK2 := Lib.hid hk2
      clear hnx hsp hnp hk2 hL2
      by_cases hE : E = 0
      · subst hE
        have HM : Hid (q < NX ∧ NX ≤ len) := Lib.hid (by
          have hm := nx_more (l := xs) (q := q) (by rw [HNX.out])
          rw [HNX.out] at hm
          have := HL.out
          simp only at hm
          omega)
        obtain ⟨W3, hW3⟩ : ∃ W3, W3 = w2.alloc (.cells #[.int .i64 K, .slice ao2 L2 c2] 80) := ⟨_, rfl⟩
        have hz3 : w2.heap.size + 1 = W3.heap.size := by rw [hW3]; simp
        have HK4 : Hid (Kp w2 (W3.alloc (.cells #[.int .i64 K, .slice ao2 L2 c2] 80))) := Lib.hid (Kp.trans (hW3 ▸ kp_alloc w2 _) (kp_alloc _ _))
        have HB4 : Hid (Blk (W3.alloc (.cells #[.int .i64 K, .slice ao2 L2 c2] 80)) (w2.heap.size + 1) 80 #[.int .i64 K, .slice ao2 L2 c2]) := Lib.hid (by
          rw [hz3]; exact Blk.new _ _ _)
        have HOFF : Hid (∀ b, (Value.slice aq lq cq).ownBlock = some b → Off b (.slice ao2 L2 c2) PL) := Lib.hid (by
          intro b hb hx a l c hv e
          have h1 := (HWB.out b hb).2
          have h2 := HNP.out a l c hv
          omega)
        rw [hW3] at HK4 HB4
        clear hz3 hW3
        go_wp2_with (at_builtin; refine wpList_fr (w := w) rfl (.tmp 24) (.tmp 26) rfl _ rfl (HROW.out.keep (Kp.trans HK2.out HK4.out)) HQX.out HSM.out HNX.out ao2 L2 c2 (w2.heap.size + 1) rfl HB4.out (HSP.out.keep HK4.out) HOFF.out ?_)
        intro v5 w5 hrow5
        have HR5 := Lib.hid hrow5
        clear hrow5
        go_wp2_with fail
        go_roundw
        case rel => exact ⟨NX, _, _, rfl, HR5.out⟩
        case measure => have := HM.out; simp [intOf]; omega
      · have FIN : Hid (∀ w', Kp wx w' → R (.returned (.tuple #[.slice aq lq cq, .int .i64 (q : Nat), .int .i64 (E : Nat)])) w') := Lib.hid (fun w' hk => by
          rw [HR.out]
          exact ⟨fs, vps, q, E, _, .inr ⟨HQX.out, hE, by rw [HNX.out]⟩, rfl, HROW.out.keep hk⟩)
        have HKE := Lib.hid (Kp.trans HK2.out (kp_alloc w2 (.cells #[.int .i64 K, .slice ao2 L2 c2] 80)))
        have hq1 : ((E : Int) == 0) = false := beq_eq_false_iff_ne.2 (by omega)
        have hq2 : ((E : Int) != 0) = true := by rw [bne_iff_ne]; omega
        clear hE
        go_wp2_with fail
        go_ret3
        exact FIN.out _ HKE.out
    · have FIN : Hid (R (.returned (.tuple #[.slice aq lq cq, .int .i64 (q : Nat), .int .i64 0])) wx) := Lib.hid (by
        rw [HR.out]
        exact ⟨fs, vps, q, 0, _, .inl ⟨by have := HL.out; omega, rfl⟩, rfl, HROW.out⟩)
      go_wp2_with fail
      go_ret3
      exact FIN.out
end By
end Go.Proofs.Ytlfoikjbbbhbdaa
