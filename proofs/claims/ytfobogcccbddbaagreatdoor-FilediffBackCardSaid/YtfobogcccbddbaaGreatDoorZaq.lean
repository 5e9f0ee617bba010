/- The changes that remove and add files, as the program finds them. Conditions: at most a thousand files; the old ones have different paths; all strings are not longer than a machine allows. -/
import Derived.Test.YtfobogcccbddbaaGreatDoorZap
import Derived.Test.YtfobogcccbddbaaGreatDoorRvO
import Derived.Test.YtfobogcccbddbaaGreatDoorZab
import Derived.Lib.Bytealg
import Derived.Test.YtfobogcccbddbaaGreatDoorShelf
import Derived.Test.YtfobogcccbddbaaGreatDoorZao
namespace Go.Proofs.YtfobogcccbddbaaGreatDoor
namespace FdN
open RevN
/-- The paths of the first files with these bytes. -/
def oldk (R : List Fl) (k : Nat) (y : List Nat) : List (List Nat) := ((R.take k).filter fun f => decide (f.2 = y)).map (·.1)
theorem oldk_snoc {R : List Fl} {k : Nat} {f : Fl} (h : R[k]? = some f) (y : List Nat) : oldk R (k + 1) y = if y = f.2 then oldk R k y ++ [f.1] else oldk R k y := by
  unfold oldk
  rw [List.take_add_one, h]
  show (((R.take k) ++ [f]).filter _).map _ = _
  rw [oldP_snoc]
  by_cases e : y = f.2
  · rw [if_pos e, if_pos e.symm]
  · rw [if_neg e, if_neg (fun e2 => e e2.symm), List.append_nil]
theorem oldk_len (R : List Fl) (k : Nat) (y : List Nat) : (oldk R k y).length ≤ k := by
  unfold oldk
  rw [List.length_map]
  exact Nat.le_trans (List.length_filter_le _ _) (List.length_take_le _ _)
theorem oldk_all {R : List Fl} {k : Nat} (h : R.length ≤ k) (y : List Nat) : oldk R k y = oldP R (List.replicate R.length false) y := by
  rw [oldP_all]
  unfold oldk
  rw [List.take_of_length_le h]
theorem oldP_len : ∀ (R : List Fl) (us : List Bool) (y : List Nat), (oldP R us y).length ≤ R.length
  | [], us, y => by simp [oldP]
  | g :: R, [], y => by simp [oldP]
  | g :: R, u :: us, y => by
    unfold oldP
    have := oldP_len R us y
    split <;> simp <;> omega
def mvK (R A : List Fl) (k : Nat) : List Bool × List Ch := (A.take k).foldl (mvS R) (List.replicate R.length false, [])
theorem mvK_zero (R A : List Fl) : mvK R A 0 = (List.replicate R.length false, []) := rfl
theorem mvK_snoc {R A : List Fl} {k : Nat} {f : Fl} (h : A[k]? = some f) : mvK R A (k + 1) = mvS R (mvK R A k) f := mv_snoc h _
theorem mvK_len (R A : List Fl) (k : Nat) : (mvK R A k).1.length = R.length ∧ (mvK R A k).2.length ≤ k := by
  have h := mv_len R (A.take k) (List.replicate R.length false, [])
  have := List.length_take_le k A
  exact ⟨by rw [List.length_replicate] at h; exact h.1, by have h2 := h.2; rw [List.length_nil, Nat.zero_add] at h2; show ((A.take k).foldl (mvS R) (List.replicate R.length false, [])).2.length ≤ k; omega⟩
theorem mvK_all {R A : List Fl} {k : Nat} (h : A.length ≤ k) : mvK R A k = mv1 R A := by unfold mvK mv1; rw [List.take_of_length_le h]
end FdN
namespace By
open Go.RowKit WireN LexN RevN FdN CtN
set_option linter.unusedVariables false
set_option linter.unusedSimpArgs false

theorem OwD.oc {lo : Nat} {w wr : World} {v : Value} {ks : List Ch} (h : OwD lo wr v ks) (hl : w.heap.size ≤ lo) (hk : Kp w wr) : OwC w wr v ks := by
  refine ⟨⟨h.owns.1, ?_⟩, h.ok, hk⟩
  rcases h.owns.2 with h2 | ⟨g, cap, cur, e1, e2, e3⟩
  · exact .inl h2
  · exact .inr ⟨g, cap, cur, e1, Nat.le_trans hl e2, e3⟩
theorem OwD.keep' {lo : Nat} {wr w1 : World} {v : Value} {ks : List Ch} (h : OwD lo wr v ks) (hk : Kp wr w1) : OwD lo w1 v ks := by
  refine ⟨World.ownsRow.kept (row := none) h.owns ⟨hk.os, hk.tape, hk.output, hk.size, fun i hi _ => hk.block i hi⟩ ?_, h.ok⟩
  rcases h.owns.2 with ⟨rfl, _⟩ | ⟨g', cap', cur, rfl, hb', _⟩
  · exact .inl rfl
  · right; intro e; simp [Value.ownBlock] at e
theorem OwD.start (lo : Nat) (w : World) : OwD lo w (.slice none 0 0) [] := ⟨World.ownsRow_nil _ _ _ _, fun f h => by simp at h⟩
set_option maxRecDepth 100000 in
set_option maxHeartbeats 16000000 in
/-- moved -/
theorem moved_any {w : World} {vr va : Value} {R A : List Fl} (hr : Rw w vr R) (ha : Rw w va A) (hrl : R.length ≤ 1000) (hal : A.length ≤ 1000) (hrs : ∀ f ∈ R, f.1.length ≤ 140737488355328 ∧ f.2.length ≤ 140737488355328) (has : ∀ f ∈ A, f.1.length ≤ 140737488355328 ∧ f.2.length ≤ 140737488355328) (hd : R.Pairwise fun x y => x.1 ≠ y.1) :
    Calls Tryz.prog 27 #[vr, va] w fun e w' => ∃ u, e = .returned u ∧ OwC w w' u (mvL R A) := by
  obtain ⟨Q, hQ⟩ : ∃ Q : Ending → World → Prop, Q = fun e w' => ∃ u, e = .returned u ∧ OwC w w' u (mvL R A) := ⟨_, rfl⟩
  rw [← hQ]
  have FIN : Hid (∀ (w' : World) (u : Value), OwC w w' u (mvL R A) → Q (.returned u) w') := Lib.hid (by
    intro w' u h1
    rw [hQ]
    exact ⟨u, rfl, h1⟩)
  obtain ⟨W, hW⟩ : ∃ W, W = w.alloc (.map #[] 0) := ⟨_, rfl⟩
  obtain ⟨mb, hmb⟩ : ∃ b, b = w.heap.size := ⟨_, rfl⟩
  have HG0 : Hid (GW w W mb 0 (fun _ => none) (oldk R 0)) := Lib.hid (by rw [hW, hmb]; exact GW.made (Kp.refl w))
  obtain ⟨ro, rc, rfl, hrc, -, -⟩ := hr.open3
  obtain ⟨ao, ac, rfl, hac, -, -⟩ := ha.open3
  obtain ⟨n, hn⟩ : ∃ n, n = R.length := ⟨_, rfl⟩
  obtain ⟨m, hm⟩ : ∃ m, m = A.length := ⟨_, rfl⟩
  rw [← hn] at hr hrc hrl ⊢
  rw [← hm] at ha hac hal ⊢
  have HR := Lib.hid hr; have HA := Lib.hid ha; have HN := Lib.hid hn; have HM := Lib.hid hm; have HRS := Lib.hid hrs; have HAS := Lib.hid has; have HD := Lib.hid hd; have HW := Lib.hid hW; have HMB := Lib.hid hmb
  have i1 : (n : Int) ≤ (rc : Int) := by omega
  have i2 : (n : Int) ≤ 1000 := by omega
  have i3 : (m : Int) ≤ (ac : Int) := by omega
  have i4 : (m : Int) ≤ 1000 := by omega
  have hmm := @run_makeMap Tryz.prog
  clear hr ha hrc hac hrl hal hrs has hd hQ hn hm hW hmb
  go_enter Tryz.func27, Tryz.ntmps27
  go_wp2_with fail
  rw [← HW.out, ← HMB.out]
  clear hmm
  go_loopw [17] (fun iv wy => ∃ (k : Nat) (V : List Nat → Option Value), k ≤ n ∧ iv = .int .i64 k ∧ Hid (GW w wy mb k V (oldk R k))) (fun iv _ => n - (intOf iv).toNat)
  case atStart => exact ⟨0, _, Nat.zero_le _, rfl, HG0⟩
  case round =>
    obtain ⟨k, V, hk, rfl, HG⟩ := hrel
    rename World => wy
    by_cases hil : k < n
    · obtain ⟨f, hf⟩ : ∃ f, R[k]? = some f := ⟨_, List.getElem?_eq_getElem (by have := HN.out; omega)⟩
      have hmem := List.mem_of_getElem? hf
      obtain ⟨g, o, rfl, hcell⟩ := (HR.out.keep HG.out.kp).cell (by omega)
      obtain ⟨d0, d1⟩ := hcell k f hf
      have j1 : (k : Int) < (n : Int) := by omega
      have HFO : Hid ((Lt f.1 ∧ Lt f.2) ∧ (f.1.length ≤ maxLen ∧ f.2.length ≤ maxLen)) := Lib.hid ⟨HR.out.lt f hmem, HR.out.sm f hmem⟩
      have HTX : Hid (TxOk f.1) := Lib.hid ⟨HFO.out.1.1, (HRS.out f hmem).1⟩
      obtain ⟨F1, hF1⟩ : ∃ S, S = st f.1 := ⟨_, rfl⟩
      obtain ⟨F2, hF2⟩ : ∃ S, S = st f.2 := ⟨_, rfl⟩
      rw [← hF1] at d0
      rw [← hF2] at d1
      obtain ⟨W3, hW3⟩ : ∃ W, W = wy.alloc (.cells #[.string F1, .string F2] 53) := ⟨_, rfl⟩
      have hk3 : Kp wy W3 := by rw [hW3]; exact kp_alloc _ _
      obtain ⟨fb, hfb⟩ : ∃ b, b = wy.heap.size := ⟨_, rfl⟩
      have HFB : Hid (Blk W3 fb 53 #[.string F1, .string F2]) := Lib.hid (by rw [hW3, hfb]; exact Blk.new _ _ _)
      have HGW := Lib.hid (HG.out.keep hk3)
      obtain ⟨gvy, hgvy⟩ : ∃ v, v = gv V f.2 := ⟨_, rfl⟩
      have hrow := (HG.out.row f.2 HFO.out.1.2).1
      have hrlt := (row_frc hrow.owns).2
      obtain ⟨⟨u1, u2, u3, hu⟩, -⟩ := row_frc hrow.owns
      have HGV := Lib.hid hu
      have GET : Hid (∀ Wx, Kp W3 Wx → (Instr.lookup 89 (.map (some mb)) (.string F2) false).run Tryz.prog Wx = .ok (.slice u1 u2 u3) Wx) := Lib.hid (fun Wx hk => by
        have h := (HGW.out.keep hk).get HFO.out.1.2 HFO.out.2.2
        rw [HGV.out, ← hF2] at h
        exact h)
      have ROW : Hid (∀ Wx, Kp W3 Wx → OwT w Wx (.slice u1 u2 u3) (oldk R k f.2)) := Lib.hid (fun Wx hk => by
        have h := ((HGW.out.keep hk).row f.2 HFO.out.1.2).1
        rw [HGV.out] at h
        exact h)
      have HLN : Hid ((oldk R k f.2).length ≤ 1000000) := Lib.hid (by have := oldk_len R k f.2; omega)
      have HNE : Hid (some fb ≠ (Value.slice u1 u2 u3).ownBlock) := Lib.hid (fun e => by
        have := hrlt fb (by rw [HGV.out]; exact e.symm)
        omega)
      have HNM : Hid (some mb ≠ (Value.slice u1 u2 u3).ownBlock) := Lib.hid (fun e => (HG.out.row f.2 HFO.out.1.2).2.1 mb (by rw [HGV.out]; exact e.symm) rfl)
      have HNF : Hid (some fb ≠ some mb) := Lib.hid (fun e => by
        injection e with e
        obtain ⟨sz, h⟩ := HG.out.mv
        have := h.lt
        omega)
      have NXT : Hid (∀ (W5 W6 W7 : World) (v6 : Value), Kp W3 W5 → OwT w W6 v6 (oldk R k f.2 ++ [f.1]) → W5.grownBy W6 (Value.slice u1 u2 u3).ownBlock → (v6.ownBlock = (Value.slice u1 u2 u3).ownBlock ∨ v6.ownBlock = some W5.heap.size) →
          (∀ sz, MV W6 mb k sz V → ∃ sz', MV W7 mb (k + 1) sz' (mset V f.2 v6)) → W6.grownBy W7 (some mb) → GW w W7 mb (k + 1) (mset V f.2 v6) (oldk R (k + 1))) := Lib.hid (by
        intro W5 W6 W7 v6 h1 h2 h3 h4 h5 h6
        rw [← HGV.out] at h3 h4
        have h := (HGW.out.keep h1).app HFO.out.1.2 h2 h3 h4 h5 h6
        have e : oldk R (k + 1) = fun q => if q = f.2 then oldk R k q ++ [f.1] else oldk R k q := by
          funext q
          exact oldk_snoc hf q
        rw [e]
        exact h)
      have BASE : Hid (∀ W4, W4 = World.drew W3 → Kp W3 W4 ∧ W4.cell? ⟨fb, 0, none⟩ = some (.string F1) ∧ W4.cell? ⟨fb, 1, none⟩ = some (.string F2)) := Lib.hid (by
        intro W4 e
        have k4 : Kp W3 W4 := by rw [e]; exact ⟨rfl, rfl, rfl, Nat.le_refl _, fun _ _ => rfl⟩
        exact ⟨k4, (HFB.out.keep k4).cell 0 rfl, (HFB.out.keep k4).cell 1 rfl⟩)
      have HF1 := Lib.hid hF1; have HF2 := Lib.hid hF2; have HW3 := Lib.hid hW3; have HFE := Lib.hid hfb
      clear hcell hf hmem hF1 hF2 hk3 hW3 hfb hgvy hrow hrlt hu gvy
      go_upto_region 5 with fail
      rw [← HW3.out, ← HFE.out]
      clear d0 d1
      obtain ⟨W4, hW4⟩ : ∃ W4, W4 = World.drew W3 := ⟨_, rfl⟩
      obtain ⟨KW4, f4, g4⟩ := BASE.out W4 hW4
      refine wp_region_held_drew (S := (fun w' => w'.cell? ⟨fb, 0, none⟩ = some (.string F1) ∧ w'.cell? ⟨fb, 1, none⟩ = some (.string F2))) (by kernel_rfl) ?_ (fun hHeld => ?_)
      · (rw [← hW4]; exact ⟨f4, g4⟩)
      rw [← hW4] at hHeld ⊢
      clear hW4
      refine wpAnyH_take (i := 0) (v := (.map (some mb))) rfl (by kernel_rfl) (by kernel_rfl) (by kernel_rfl) (fun _ _ _ h => h) (Or.inl ⟨by rfl, ?_⟩) (by assumption) ?_
      · (intro wq hSw; obtain ⟨s0, s1⟩ := hSw; go_simp)
      try simp only [Act.put, List.getElem_toArray, List.getElem_cons_zero, List.getElem_cons_succ, List.setIfInBounds_toArray, List.set_cons_zero, List.set_cons_succ]
      refine wpAnyH_take (i := 1) (v := (.pointer (some ⟨fb, 1, none⟩))) rfl (by kernel_rfl) (by kernel_rfl) (by kernel_rfl) (fun _ _ _ h => h) (Or.inl ⟨by rfl, ?_⟩) (by assumption) ?_
      · (intro wq hSw; obtain ⟨s0, s1⟩ := hSw; go_simp)
      try simp only [Act.put, List.getElem_toArray, List.getElem_cons_zero, List.getElem_cons_succ, List.setIfInBounds_toArray, List.set_cons_zero, List.set_cons_succ]
      refine wpAnyH_take (i := 2) (v := (.string F2)) rfl (by kernel_rfl) (by kernel_rfl) (by kernel_rfl) (fun _ _ _ h => h) (Or.inl ⟨by rfl, ?_⟩) (by assumption) ?_
      · (intro wq hSw; obtain ⟨s0, s1⟩ := hSw; go_simp)
      try simp only [Act.put, List.getElem_toArray, List.getElem_cons_zero, List.getElem_cons_succ, List.setIfInBounds_toArray, List.set_cons_zero, List.set_cons_succ]
      refine wpAnyH_take (i := 3) (v := (.map (some mb))) rfl (by kernel_rfl) (by kernel_rfl) (by kernel_rfl) (fun _ _ _ h => h) (Or.inl ⟨by rfl, ?_⟩) (by assumption) ?_
      · (intro wq hSw; obtain ⟨s0, s1⟩ := hSw; go_simp)
      try simp only [Act.put, List.getElem_toArray, List.getElem_cons_zero, List.getElem_cons_succ, List.setIfInBounds_toArray, List.set_cons_zero, List.set_cons_succ]
      refine wpAnyH_take (i := 4) (v := (.pointer (some ⟨fb, 1, none⟩))) rfl (by kernel_rfl) (by kernel_rfl) (by kernel_rfl) (fun _ _ _ h => h) (Or.inl ⟨by rfl, ?_⟩) (by assumption) ?_
      · (intro wq hSw; obtain ⟨s0, s1⟩ := hSw; go_simp)
      try simp only [Act.put, List.getElem_toArray, List.getElem_cons_zero, List.getElem_cons_succ, List.setIfInBounds_toArray, List.set_cons_zero, List.set_cons_succ]
      refine wpAnyH_take (i := 5) (v := (.string F2)) rfl (by kernel_rfl) (by kernel_rfl) (by kernel_rfl) (fun _ _ _ h => h) (Or.inl ⟨by rfl, ?_⟩) (by assumption) ?_
      · (intro wq hSw; obtain ⟨s0, s1⟩ := hSw; go_simp)
      try simp only [Act.put, List.getElem_toArray, List.getElem_cons_zero, List.getElem_cons_succ, List.setIfInBounds_toArray, List.set_cons_zero, List.set_cons_succ]
      refine wpAnyH_take (i := 7) (v := (.pointer (some ⟨fb, 0, none⟩))) rfl (by kernel_rfl) (by kernel_rfl) (by kernel_rfl) (fun _ _ _ h => h) (Or.inl ⟨by rfl, ?_⟩) (by assumption) ?_
      · (intro wq hSw; obtain ⟨s0, s1⟩ := hSw; go_simp)
      try simp only [Act.put, List.getElem_toArray, List.getElem_cons_zero, List.getElem_cons_succ, List.setIfInBounds_toArray, List.set_cons_zero, List.set_cons_succ]
      refine wpAnyH_take (i := 8) (v := (.string F1)) rfl (by kernel_rfl) (by kernel_rfl) (by kernel_rfl) (fun _ _ _ h => h) (Or.inl ⟨by rfl, ?_⟩) (by assumption) ?_
      · (intro wq hSw; obtain ⟨s0, s1⟩ := hSw; go_simp)
      try simp only [Act.put, List.getElem_toArray, List.getElem_cons_zero, List.getElem_cons_succ, List.setIfInBounds_toArray, List.set_cons_zero, List.set_cons_succ]
      clear hHeld
      refine wpAnyH_ready (rs := [6, 9]) (by kernel_rfl) (by simp) (AllReadyH.cons rfl (fun KK hK => ?_) (AllReadyH.cons rfl (fun KK hK => ?_) AllReadyH.nil))
      · refine step_mvget rfl 89 (.tmp 24) (.tmp 26) rfl rfl rfl (GET.out _ KW4) ?_
        refine hK.out _ _ (⟨by assumption, by assumption⟩) (fun hHeld => ?_)
        clear hHeld hK KK
        try simp only [Act.put, List.getElem_toArray, List.getElem_cons_zero, List.getElem_cons_succ, List.setIfInBounds_toArray, List.set_cons_zero, List.set_cons_succ]
        refine wpAnyH_ready (rs := [9]) (by kernel_rfl) (by simp) (AllReadyH.cons rfl (fun KK hK => ?_) AllReadyH.nil)
        (refine step_bldT rfl 30 29 rfl rfl rfl ?_; intro W5 hW5; have k45 : Kp W4 W5 := (by rw [hW5]; exact kp_alloc _ _); have K5 := KW4.trans k45; have b5 : Blk W5 W4.heap.size 9 #[.string (st f.1)] := (by rw [hW5, HF1.out]; exact Blk.new _ _ _); have f5 := (HFB.out.keep K5).cell 0 rfl; have g5 := (HFB.out.keep K5).cell 1 rfl; clear hW5 k45)
        refine hK.out _ _ (⟨by assumption, by assumption⟩) (fun hHeld => ?_)
        clear hHeld hK KK
        try simp only [Act.put, List.getElem_toArray, List.getElem_cons_zero, List.getElem_cons_succ, List.setIfInBounds_toArray, List.set_cons_zero, List.set_cons_succ]
        refine wpAnyH_ready (rs := [10]) (by kernel_rfl) (by simp) (AllReadyH.cons rfl (fun KK hK => ?_) AllReadyH.nil)
        (refine step_tx (w := w) rfl (.tmp 27) (.tmp 30) rfl (.slice u1 u2 u3) rfl (ROW.out _ K5) HLN.out f.1 HTX.out W4.heap.size rfl b5 ?_; intro v6 W6 ho6 hg6 hv6; obtain ⟨⟨x1, x2, x3, rfl⟩, -⟩ := row_frc ho6.owns; have B6 := Lib.hid (Blk.by (HFB.out.keep K5) hg6 HNE.out); have f6 := B6.out.cell 0 rfl; have g6 := B6.out.cell 1 rfl; have HM6 : Hid (∃ sz, MV W6 mb k sz V) := Lib.hid (by obtain ⟨sz, h⟩ := (HGW.out.keep K5).mv; exact ⟨sz, h.by hg6 HNM.out⟩))
        refine hK.out _ _ (⟨by assumption, by assumption⟩) (fun hHeld => ?_)
        clear hHeld hK KK
        try simp only [Act.put, List.getElem_toArray, List.getElem_cons_zero, List.getElem_cons_succ, List.setIfInBounds_toArray, List.set_cons_zero, List.set_cons_succ]
        refine wpAnyH_ready (rs := [11]) (by kernel_rfl) (by simp) (AllReadyH.cons rfl (fun KK hK => ?_) AllReadyH.nil)
        (refine step_mvput rfl _ (.tmp 21) (.tmp 23) (.tmp 31) rfl underSR rfl (by omega) HM6.out f.2 HFO.out.1.2 HFO.out.2.2 (by rw [← HF2.out]; rfl) (.slice x1 x2 x3) rfl ?_; rintro W7 ⟨sz7, km7⟩ g7; have b7 := Blk.by B6.out g7 HNF.out; have f7 := b7.cell 0 rfl; have h7 := b7.cell 1 rfl; have HX : Hid (GW w W7 mb (k + 1) (mset V f.2 (.slice x1 x2 x3)) (oldk R (k + 1))) := Lib.hid (NXT.out _ _ _ _ K5 ho6 hg6 hv6 (fun _ _ => ⟨_, km7⟩) g7); clear km7 g7 ho6 hg6 hv6 b7)
        refine hK.out _ _ (⟨by assumption, by assumption⟩) (fun hHeld => ?_)
        clear hHeld hK KK
        try simp only [Act.put, List.getElem_toArray, List.getElem_cons_zero, List.getElem_cons_succ, List.setIfInBounds_toArray, List.set_cons_zero, List.set_cons_succ]
        refine wpAnyH_done (by kernel_rfl) ?_ _
        clear K5 b5 f5 g5 f6 g6 f7 h7 B6 HM6
        go_wp2_with fail
        go_roundw
        case rel => exact ⟨k + 1, _, by omega, vint (by omega), HX⟩
        case measure => simp [intOf]; omega
      · (refine step_bldT rfl 30 29 rfl rfl rfl ?_; intro W5 hW5; have k45 : Kp W4 W5 := (by rw [hW5]; exact kp_alloc _ _); have K5 := KW4.trans k45; have b5 : Blk W5 W4.heap.size 9 #[.string (st f.1)] := (by rw [hW5, HF1.out]; exact Blk.new _ _ _); have f5 := (HFB.out.keep K5).cell 0 rfl; have g5 := (HFB.out.keep K5).cell 1 rfl; clear hW5 k45)
        refine hK.out _ _ (⟨by assumption, by assumption⟩) (fun hHeld => ?_)
        clear hHeld hK KK
        try simp only [Act.put, List.getElem_toArray, List.getElem_cons_zero, List.getElem_cons_succ, List.setIfInBounds_toArray, List.set_cons_zero, List.set_cons_succ]
        refine wpAnyH_ready (rs := [6]) (by kernel_rfl) (by simp) (AllReadyH.cons rfl (fun KK hK => ?_) AllReadyH.nil)
        refine step_mvget rfl 89 (.tmp 24) (.tmp 26) rfl rfl rfl (GET.out _ K5) ?_
        refine hK.out _ _ (⟨by assumption, by assumption⟩) (fun hHeld => ?_)
        clear hHeld hK KK
        try simp only [Act.put, List.getElem_toArray, List.getElem_cons_zero, List.getElem_cons_succ, List.setIfInBounds_toArray, List.set_cons_zero, List.set_cons_succ]
        refine wpAnyH_ready (rs := [10]) (by kernel_rfl) (by simp) (AllReadyH.cons rfl (fun KK hK => ?_) AllReadyH.nil)
        (refine step_tx (w := w) rfl (.tmp 27) (.tmp 30) rfl (.slice u1 u2 u3) rfl (ROW.out _ K5) HLN.out f.1 HTX.out W4.heap.size rfl b5 ?_; intro v6 W6 ho6 hg6 hv6; obtain ⟨⟨x1, x2, x3, rfl⟩, -⟩ := row_frc ho6.owns; have B6 := Lib.hid (Blk.by (HFB.out.keep K5) hg6 HNE.out); have f6 := B6.out.cell 0 rfl; have g6 := B6.out.cell 1 rfl; have HM6 : Hid (∃ sz, MV W6 mb k sz V) := Lib.hid (by obtain ⟨sz, h⟩ := (HGW.out.keep K5).mv; exact ⟨sz, h.by hg6 HNM.out⟩))
        refine hK.out _ _ (⟨by assumption, by assumption⟩) (fun hHeld => ?_)
        clear hHeld hK KK
        try simp only [Act.put, List.getElem_toArray, List.getElem_cons_zero, List.getElem_cons_succ, List.setIfInBounds_toArray, List.set_cons_zero, List.set_cons_succ]
        refine wpAnyH_ready (rs := [11]) (by kernel_rfl) (by simp) (AllReadyH.cons rfl (fun KK hK => ?_) AllReadyH.nil)
        (refine step_mvput rfl _ (.tmp 21) (.tmp 23) (.tmp 31) rfl underSR rfl (by omega) HM6.out f.2 HFO.out.1.2 HFO.out.2.2 (by rw [← HF2.out]; rfl) (.slice x1 x2 x3) rfl ?_; rintro W7 ⟨sz7, km7⟩ g7; have b7 := Blk.by B6.out g7 HNF.out; have f7 := b7.cell 0 rfl; have h7 := b7.cell 1 rfl; have HX : Hid (GW w W7 mb (k + 1) (mset V f.2 (.slice x1 x2 x3)) (oldk R (k + 1))) := Lib.hid (NXT.out _ _ _ _ K5 ho6 hg6 hv6 (fun _ _ => ⟨_, km7⟩) g7); clear km7 g7 ho6 hg6 hv6 b7)
        refine hK.out _ _ (⟨by assumption, by assumption⟩) (fun hHeld => ?_)
        clear hHeld hK KK
        try simp only [Act.put, List.getElem_toArray, List.getElem_cons_zero, List.getElem_cons_succ, List.setIfInBounds_toArray, List.set_cons_zero, List.set_cons_succ]
        refine wpAnyH_done (by kernel_rfl) ?_ _
        clear K5 b5 f5 g5 f6 g6 f7 h7 B6 HM6
        go_wp2_with fail
        go_roundw
        case rel => exact ⟨k + 1, _, by omega, vint (by omega), HX⟩
        case measure => simp [intOf]; omega
    · have HGD : Hid (GR wy.heap.size wy mb n V (oldP R (mvK R A 0).1)) := Lib.hid (by
        have h := HG.out.done
        obtain rfl : k = n := by omega
        refine h.congr fun y => ?_
        rw [mvK_zero]
        exact oldk_all (by have := HN.out; omega) y)
      have HKW := Lib.hid HG.out.kp
      have HLO := Lib.hid HG.out.lo
      obtain ⟨lo, hlo⟩ : ∃ l, l = wy.heap.size := ⟨_, rfl⟩
      rw [← hlo] at HGD
      have HLW : Hid (w.heap.size ≤ lo) := Lib.hid (by rw [hlo]; exact HKW.out.size)
      clear hlo HG
      go_wp2_with fail
      go_loopw [4, 35] (fun uv iv wx => ∃ (j : Nat) (u : Value) (V : List Nat → Option Value), j ≤ m ∧ iv = .int .i64 j ∧ uv = u ∧ Kp w wx ∧ Hid (GR lo wx mb (n + j) V (oldP R (mvK R A j).1)) ∧ Hid (OwD lo wx u (mvK R A j).2)) (fun _ iv _ => m - (intOf iv).toNat)
      case atStart => exact ⟨0, _, V, Nat.zero_le _, rfl, rfl, HKW.out, HGD, Lib.hid (OwD.start lo wy)⟩
      case round =>
        obtain ⟨j, u, V, hj, rfl, rfl, hkp, HGR, HOD⟩ := hrel
        have HKP := Lib.hid hkp
        clear hkp
        rename World => wx
        obtain ⟨⟨u1, u2, u3, rfl⟩, -⟩ := row_form HOD.out.owns
        by_cases hjl : j < m
        · obtain ⟨f, hf⟩ : ∃ f, A[j]? = some f := ⟨_, List.getElem?_eq_getElem (by have := HM.out; omega)⟩
          have hmem := List.mem_of_getElem? hf
          obtain ⟨g, o, rfl, hcell⟩ := (HA.out.keep HKP.out).cell (by omega)
          obtain ⟨d0, d1⟩ := hcell j f hf
          have j1 : (j : Int) < (m : Int) := by omega
          have HFO : Hid ((Lt f.1 ∧ Lt f.2) ∧ (f.1.length ≤ maxLen ∧ f.2.length ≤ maxLen)) := Lib.hid ⟨HA.out.lt f hmem, HA.out.sm f hmem⟩
          have HFS := Lib.hid (HAS.out f hmem)
          obtain ⟨F1, hF1⟩ : ∃ S, S = st f.1 := ⟨_, rfl⟩
          obtain ⟨F2, hF2⟩ : ∃ S, S = st f.2 := ⟨_, rfl⟩
          rw [← hF1] at d0
          rw [← hF2] at d1
          obtain ⟨W3, hW3⟩ : ∃ W, W = wx.alloc (.cells #[.string F1, .string F2] 53) := ⟨_, rfl⟩
          have hk3 : Kp wx W3 := by rw [hW3]; exact kp_alloc _ _
          obtain ⟨fb, hfb⟩ : ∃ b, b = wx.heap.size := ⟨_, rfl⟩
          have HFB : Hid (Blk W3 fb 53 #[.string F1, .string F2]) := Lib.hid (by rw [hW3, hfb]; exact Blk.new _ _ _)
          have HT := Lib.hid (takeFirst_any (HGR.out.keep hk3) (by omega) HFO.out.1.2 HFO.out.2.2)
          rw [← hF2] at HT
          have HO3 := Lib.hid (HOD.out.keep' hk3)
          have HK3 := Lib.hid (HKP.out.trans hk3)
          have HSN := Lib.hid (mvK_snoc (R := R) hf)
          have HLN : Hid ((mvK R A j).2.length ≤ 1000000) := Lib.hid (by have := (mvK_len R A j).2; omega)
          have HML : Hid (mb < lo) := Lib.hid HGR.out.lt
          have HNF : Hid (some fb ≠ some mb) := Lib.hid (fun e => by
            injection e with e
            have := HGR.out.lt; have := HGR.out.sz
            omega)
          have HMW : Hid (w.heap.size ≤ mb) := Lib.hid (by rw [HMB.out]; exact Nat.le_refl _)
          have HF1 := Lib.hid hF1; have HF2 := Lib.hid hF2; have HW3 := Lib.hid hW3; have HFE := Lib.hid hfb
          have HFN := Lib.hid (fndU_oldP f.2 R (mvK R A j).1 0)
          clear hcell hf hmem hF1 hF2 hk3 hW3 hfb
          rcases HFN.out with ⟨h1, h2⟩ | ⟨i, h1, h2, h3, h4, h5⟩
          · have HS1 : Hid (mvK R A (j + 1) = ((mvK R A j).1, (mvK R A j).2 ++ [(1, f.1, [], f.2)])) := Lib.hid (by rw [HSN.out]; unfold mvS; rw [h1])
            have HM0 := Lib.hid h2
            have HXO : Hid (ChOk (1, f.1, [], f.2)) := Lib.hid (chok2 (by decide) HFO.out.1.1 Lt.nil HFO.out.1.2 HFS.out.1 (by simp) HFS.out.2)
            unfold TakeR at HT
            rw [h2] at HT
            clear h1 h2
            go_wp2_with fail
            rw [← HW3.out, ← HFE.out]
            refine HT.out.mono ?_
            rintro e w4 ⟨rfl, ⟨V4, hg4⟩, hgr⟩
            have HG4 : Hid (GR lo w4 mb (n + j + 1) V4 (oldP R (mvK R A (j + 1)).1)) := Lib.hid (hg4.congr fun q => by
              rw [HS1.out]
              by_cases e : q = f.2
              · rw [if_pos e, e, HM0.out]; rfl
              · rw [if_neg e])
            have b4 := Blk.by HFB.out hgr HNF.out
            have e0 := b4.cell 0 rfl; have e1 := b4.cell 1 rfl
            have HO4 := Lib.hid (HO3.out.gr hgr HML.out)
            have K4 : Hid (Kp w w4) := Lib.hid (grown_kpm HK3.out hgr HMW.out)
            clear hgr b4 hg4 d0 d1
            obtain ⟨W5, hW5⟩ : ∃ W, W = w4.alloc (.cells #[.int .i64 1, .string F1, .string ⟨#[]⟩, .string F2] 50) := ⟨_, rfl⟩
            have HNB : Hid (Blk W5 w4.heap.size 50 #[.int .i64 ((1, f.1, [], f.2) : Ch).1, .string (st ((1, f.1, [], f.2) : Ch).2.1), .string (st ((1, f.1, [], f.2) : Ch).2.2.1), .string (st ((1, f.1, [], f.2) : Ch).2.2.2)]) := Lib.hid (by
              rw [hW5]
              simp only [← HF1.out, ← HF2.out]
              exact Blk.new _ _ _)
            have k5 : Kp w4 W5 := by rw [hW5]; exact kp_alloc _ _
            have HO5 := Lib.hid (HO4.out.keep' k5)
            have HG5 := Lib.hid (HG4.out.keep k5)
            have K5 := Lib.hid (K4.out.trans k5)
            have HL5 : Hid (lo ≤ W5.heap.size) := Lib.hid HG5.out.sz
            rw [hW5] at HNB HO5 HL5
            have HW5 := Lib.hid hW5
            clear hW5 k5
            go_wp2_with (at_builtin; refine wpList_chd rfl (.tmp 54) (.tmp 60) rfl _ rfl HO5.out HL5.out HLN.out (1, f.1, [], f.2) HXO.out w4.heap.size rfl HNB.out ?_)
            rw [← HW5.out]
            intro v6 w6 ho6 hg6 hv6
            have HG6 := Lib.hid (HG5.out.by hg6 (fun r hr => HO4.out.newer r hr))
            have K6 : Hid (Kp w w6) := Lib.hid (Below.grown K5.out hg6 K5.out.size (fun r hr => Nat.le_trans HLW.out (HO4.out.newer r hr)))
            have HO6 := Lib.hid ho6
            clear ho6 hg6 hv6
            go_wp2_with fail
            go_roundw
            case rel => exact ⟨j + 1, _, _, by omega, vint (by omega), rfl, K6.out, HG6, Lib.hid (by rw [HS1.out]; exact HO6.out)⟩
            case measure => simp [intOf]; omega
          · obtain ⟨p, hp⟩ : ∃ p, p = (R[i]?.getD ([], [])).1 := ⟨_, rfl⟩
            rw [← hp] at h4
            have hpm : ∃ fp ∈ R, fp.1 = p := ⟨R[i]'h2, List.getElem_mem h2, by rw [hp, List.getElem?_eq_getElem h2]; rfl⟩
            obtain ⟨fp, hfp, hfe⟩ := hpm
            have HS1 : Hid (mvK R A (j + 1) = ((mvK R A j).1.set i true, (mvK R A j).2 ++ [(4, f.1, p, [])])) := Lib.hid (by rw [HSN.out]; unfold mvS; rw [h1, Nat.zero_add, hp])
            have HM0 := Lib.hid h4; have HM1 := Lib.hid h5
            have HXO : Hid (ChOk (4, f.1, p, [])) := Lib.hid (chok2 (by decide) HFO.out.1.1 (by rw [← hfe]; exact (HR.out.lt fp hfp).1) Lt.nil HFS.out.1 (by rw [← hfe]; exact (HRS.out fp hfp).1) (by simp))
            unfold TakeR at HT
            rw [h4] at HT
            simp only [List.headD_cons, List.isEmpty_cons, Bool.not_false] at HT
            obtain ⟨G1, hG1⟩ : ∃ S, S = st p := ⟨_, rfl⟩
            rw [← hG1] at HT
            have HG1 := Lib.hid hG1
            clear h1 h2 h3 h4 h5 hp hfp hfe hG1
            go_wp2_with fail
            rw [← HW3.out, ← HFE.out]
            refine HT.out.mono ?_
            rintro e w4 ⟨rfl, ⟨V4, hg4⟩, hgr⟩
            have HG4 : Hid (GR lo w4 mb (n + j + 1) V4 (oldP R (mvK R A (j + 1)).1)) := Lib.hid (hg4.congr fun q => by
              rw [HS1.out]
              by_cases e : q = f.2
              · rw [if_pos e, e]; rfl
              · rw [if_neg e]; exact (HM1.out q e).symm)
            have b4 := Blk.by HFB.out hgr HNF.out
            have e0 := b4.cell 0 rfl; have e1 := b4.cell 1 rfl
            have HO4 := Lib.hid (HO3.out.gr hgr HML.out)
            have K4 : Hid (Kp w w4) := Lib.hid (grown_kpm HK3.out hgr HMW.out)
            clear hgr b4 hg4 d0 d1
            obtain ⟨W5, hW5⟩ : ∃ W, W = w4.alloc (.cells #[.int .i64 4, .string F1, .string G1, .string ⟨#[]⟩] 50) := ⟨_, rfl⟩
            have HNB : Hid (Blk W5 w4.heap.size 50 #[.int .i64 ((4, f.1, p, []) : Ch).1, .string (st ((4, f.1, p, []) : Ch).2.1), .string (st ((4, f.1, p, []) : Ch).2.2.1), .string (st ((4, f.1, p, []) : Ch).2.2.2)]) := Lib.hid (by
              rw [hW5]
              simp only [← HF1.out, ← HF2.out, ← HG1.out]
              exact Blk.new _ _ _)
            have k5 : Kp w4 W5 := by rw [hW5]; exact kp_alloc _ _
            have HO5 := Lib.hid (HO4.out.keep' k5)
            have HG5 := Lib.hid (HG4.out.keep k5)
            have K5 := Lib.hid (K4.out.trans k5)
            have HL5 : Hid (lo ≤ W5.heap.size) := Lib.hid HG5.out.sz
            rw [hW5] at HNB HO5 HL5
            have HW5 := Lib.hid hW5
            clear hW5 k5
            go_wp2_with (at_builtin; refine wpList_chd rfl (.tmp 47) (.tmp 52) rfl _ rfl HO5.out HL5.out HLN.out (4, f.1, p, []) HXO.out w4.heap.size rfl HNB.out ?_)
            rw [← HW5.out]
            intro v6 w6 ho6 hg6 hv6
            have HG6 := Lib.hid (HG5.out.by hg6 (fun r hr => HO4.out.newer r hr))
            have K6 : Hid (Kp w w6) := Lib.hid (Below.grown K5.out hg6 K5.out.size (fun r hr => Nat.le_trans HLW.out (HO4.out.newer r hr)))
            have HO6 := Lib.hid ho6
            clear ho6 hg6 hv6
            go_wp2_with fail
            go_roundw
            case rel => exact ⟨j + 1, _, _, by omega, vint (by omega), rfl, K6.out, HG6, Lib.hid (by rw [HS1.out]; exact HO6.out)⟩
            case measure => simp [intOf]; omega
        · have HMJ : Hid (mvK R A j = mv1 R A) := Lib.hid (mvK_all (by have := HM.out; omega))
          have HGR1 := Lib.hid HGR.out; have HOD1 := Lib.hid HOD.out
          rw [HMJ.out] at HGR1 HOD1
          obtain ⟨us, hus⟩ : ∃ x, x = (mv1 R A).1 := ⟨_, rfl⟩
          obtain ⟨D, hD⟩ : ∃ x, x = (mv1 R A).2 := ⟨_, rfl⟩
          have HUL : Hid (us.length = R.length) := Lib.hid (by rw [hus, ← HMJ.out]; exact (mvK_len R A j).1)
          have HDL : Hid (D.length ≤ 1000) := Lib.hid (by have := (mvK_len R A j).2; rw [HMJ.out, ← hD] at this; omega)
          rw [← hus] at HGR1
          rw [← hD] at HOD1
          obtain ⟨nn, hnn⟩ : ∃ x, x = n + j := ⟨_, rfl⟩
          rw [← hnn] at HGR1
          have FIN2 : Hid (∀ (w' : World) (u : Value), OwC w w' u (D ++ rmL R us n) → Q (.returned u) w') := Lib.hid (by
            intro w' u h1
            refine FIN.out w' u ?_
            unfold mvL
            rw [← hus, ← hD, ← HN.out]
            exact h1)
          clear hus hD hnn HMJ HGR HOD HG0 HGD FIN
          go_wp2_with fail
          go_loopw [4, 65] (fun uv iv wx => ∃ (k : Nat) (u : Value), k ≤ n ∧ iv = .int .i64 k ∧ uv = u ∧ Kp w wx ∧ Hid (GR lo wx mb nn V (oldP R us)) ∧ Hid (OwD lo wx u (D ++ rmL R us k))) (fun _ iv _ => n - (intOf iv).toNat)
          case atStart => exact ⟨0, _, Nat.zero_le _, rfl, rfl, HKP.out, HGR1, Lib.hid (by rw [show rmL R us 0 = [] from rfl, List.append_nil]; exact HOD1.out)⟩
          case round =>
            obtain ⟨k, u, hk, rfl, rfl, hkp, HGR, HOD⟩ := hrel
            have HKZ := Lib.hid hkp
            clear hkp
            rename World => wz
            obtain ⟨⟨u1, u2, u3, rfl⟩, -⟩ := row_form HOD.out.owns
            by_cases hkl : k < n
            · obtain ⟨f, hf⟩ : ∃ f, R[k]? = some f := ⟨_, List.getElem?_eq_getElem (by have := HN.out; omega)⟩
              have hmem := List.mem_of_getElem? hf
              obtain ⟨g, o, rfl, hcell⟩ := (HR.out.keep HKZ.out).cell (by omega)
              obtain ⟨d0, d1⟩ := hcell k f hf
              have j1 : (k : Int) < (n : Int) := by omega
              have HFO : Hid ((Lt f.1 ∧ Lt f.2) ∧ (f.1.length ≤ maxLen ∧ f.2.length ≤ maxLen)) := Lib.hid ⟨HR.out.lt f hmem, HR.out.sm f hmem⟩
              have HFS := Lib.hid (HRS.out f hmem)
              obtain ⟨F1, hF1⟩ : ∃ S, S = st f.1 := ⟨_, rfl⟩
              obtain ⟨F2, hF2⟩ : ∃ S, S = st f.2 := ⟨_, rfl⟩
              rw [← hF1] at d0
              rw [← hF2] at d1
              obtain ⟨W3, hW3⟩ : ∃ W, W = wz.alloc (.cells #[.string F1, .string F2] 53) := ⟨_, rfl⟩
              have hk3 : Kp wz W3 := by rw [hW3]; exact kp_alloc _ _
              obtain ⟨fb, hfb⟩ : ∃ b, b = wz.heap.size := ⟨_, rfl⟩
              have HFB : Hid (Blk W3 fb 53 #[.string F1, .string F2]) := Lib.hid (by rw [hW3, hfb]; exact Blk.new _ _ _)
              have hrow := ((HGR.out.keep hk3).row f.2 HFO.out.1.2).1
              have q0 := (HGR.out.keep hk3).get HFO.out.1.2 HFO.out.2.2
              have HC := Lib.hid (Contains_tw hrow HFO.out.1.1 (by have := oldP_len R us f.2; have := HN.out; omega))
              obtain ⟨c, hc⟩ : ∃ c, c = decide (f.1 ∈ oldP R us f.2) := ⟨_, rfl⟩
              have hcu : c = !(us[k]?.getD true) := by rw [hc]; exact oldP_at HD.out HUL.out hf
              obtain ⟨go, gc, hgv, -, -, -⟩ := hrow.open3
              rw [hgv, ← hF2, hW3] at q0
              rw [hgv, ← hF1, ← hc] at HC
              have HO3 := Lib.hid (HOD.out.keep' hk3)
              have HG3 := Lib.hid (HGR.out.keep hk3)
              have HK3 := Lib.hid (HKZ.out.trans hk3)
              have HRM : Hid (rmL R us (k + 1) = rmL R us k ++ (if c = true then [(2, f.1, [], [])] else [])) := Lib.hid (by
                rw [rmL_succ, hf, hcu]
                cases us[k]?.getD true <;> rfl)
              have HLN : Hid ((D ++ rmL R us k).length ≤ 1000000) := Lib.hid (by rw [List.length_append]; have := rmL_len R us k; have := HDL.out; omega)
              have HXO : Hid (ChOk (2, f.1, [], [])) := Lib.hid (chok2 (by decide) HFO.out.1.1 Lt.nil Lt.nil HFS.out.1 (by simp) (by simp))
              have HF1 := Lib.hid hF1; have HF2 := Lib.hid hF2; have HW3 := Lib.hid hW3; have HFE := Lib.hid hfb
              clear hcell hf hmem hF1 hF2 hk3 hW3 hfb hrow hc hcu hgv
              cases c with
              | true =>
                go_wp2_with fail
                rw [← HW3.out, ← HFE.out]
                refine HC.out.mono ?_
                rintro e w4 ⟨rfl, hk4⟩
                have b4 := HFB.out.keep hk4
                have e0 := b4.cell 0 rfl; have e1 := b4.cell 1 rfl
                have HO4 := Lib.hid (HO3.out.keep' hk4)
                have HG4 := Lib.hid (HG3.out.keep hk4)
                have K4 : Hid (Kp w w4) := Lib.hid (HK3.out.trans hk4)
                clear hk4 b4 d0 d1 q0
                obtain ⟨W5, hW5⟩ : ∃ W, W = w4.alloc (.cells #[.int .i64 2, .string F1, .string ⟨#[]⟩, .string ⟨#[]⟩] 50) := ⟨_, rfl⟩
                have HNB : Hid (Blk W5 w4.heap.size 50 #[.int .i64 ((2, f.1, [], []) : Ch).1, .string (st ((2, f.1, [], []) : Ch).2.1), .string (st ((2, f.1, [], []) : Ch).2.2.1), .string (st ((2, f.1, [], []) : Ch).2.2.2)]) := Lib.hid (by
                  rw [hW5]
                  simp only [← HF1.out, ← HF2.out]
                  exact Blk.new _ _ _)
                have k5 : Kp w4 W5 := by rw [hW5]; exact kp_alloc _ _
                have HO5 := Lib.hid (HO4.out.keep' k5)
                have HG5 := Lib.hid (HG4.out.keep k5)
                have K5 := Lib.hid (K4.out.trans k5)
                have HL5 : Hid (lo ≤ W5.heap.size) := Lib.hid HG5.out.sz
                rw [hW5] at HNB HO5 HL5
                have HW5 := Lib.hid hW5
                clear hW5 k5
                go_wp2_with (at_builtin; refine wpList_chd rfl (.tmp 76) (.tmp 80) rfl _ rfl HO5.out HL5.out HLN.out (2, f.1, [], []) HXO.out w4.heap.size rfl HNB.out ?_)
                rw [← HW5.out]
                intro v6 w6 ho6 hg6 hv6
                have HG6 := Lib.hid (HG5.out.by hg6 (fun r hr => HO4.out.newer r hr))
                have K6 : Hid (Kp w w6) := Lib.hid (Below.grown K5.out hg6 K5.out.size (fun r hr => Nat.le_trans HLW.out (HO4.out.newer r hr)))
                have HO6 := Lib.hid ho6
                clear ho6 hg6 hv6
                go_wp2_with fail
                go_roundw
                case rel => exact ⟨k + 1, _, by omega, vint (by omega), rfl, K6.out, HG6, Lib.hid (by rw [HRM.out, if_pos (by simp)]; exact HO6.out)⟩
                case measure => simp [intOf]; omega
              | false =>
                go_wp2_with fail
                rw [← HW3.out, ← HFE.out]
                refine HC.out.mono ?_
                rintro e w4 ⟨rfl, hk4⟩
                have HO4 : Hid (OwD lo w4 (.slice u1 u2 u3) (D ++ rmL R us (k + 1))) := Lib.hid (by
                  rw [HRM.out, if_neg (by simp), List.append_nil]
                  exact HO3.out.keep' hk4)
                have HG4 := Lib.hid (HG3.out.keep hk4)
                have K4 : Hid (Kp w w4) := Lib.hid (HK3.out.trans hk4)
                clear hk4 d0 d1 q0
                go_wp2_with fail
                go_roundw
                case rel => exact ⟨k + 1, _, by omega, vint (by omega), rfl, K4.out, HG4, HO4⟩
                case measure => simp [intOf]; omega
            · have HF : Hid (OwC w wz (.slice u1 u2 u3) (D ++ rmL R us n)) := Lib.hid (by
                have h := HOD.out
                obtain rfl : k = n := by omega
                exact h.oc HLW.out HKZ.out)
              go_wp2_with fail
              exact FIN2.out _ _ HF.out
end By
end Go.Proofs.YtfobogcccbddbaaGreatDoor

/- The order of strings as a number, and as the library's order of bytes. No condition. -/
namespace Go.Proofs.YtfobogcccbddbaaGreatDoor
namespace By
open Go.RowKit WireN LexN RevN
set_option linter.unusedVariables false
set_option linter.unusedSimpArgs false

/-- The order of strings as a number. -/
def cps (a b : List Nat) : Int := if lss a b = true then -1 else if lss b a = true then 1 else 0
theorem cmpB_map : ∀ {a b : List Nat}, (∀ x ∈ a, x < 256) → (∀ x ∈ b, x < 256) → Lib.compareBytes (a.map fun n => UInt8.ofNat n) (b.map fun n => UInt8.ofNat n) = cps a b
  | [], [], _, _ => rfl
  | [], y :: b, _, _ => rfl
  | x :: a, [], _, _ => rfl
  | x :: a, y :: b, ha, hb => by
    have hx : x < 256 := ha x List.mem_cons_self
    have hy : y < 256 := hb y List.mem_cons_self
    have ih := cmpB_map (a := a) (b := b) (fun z hz => ha z (List.mem_cons_of_mem _ hz)) (fun z hz => hb z (List.mem_cons_of_mem _ hz))
    have h1 : (UInt8.ofNat x < UInt8.ofNat y) ↔ x < y := by
      rw [UInt8.lt_iff_toNat_lt]
      simp; omega
    have h2 : (UInt8.ofNat y < UInt8.ofNat x) ↔ y < x := by
      rw [UInt8.lt_iff_toNat_lt]
      simp; omega
    simp only [List.map_cons, Lib.compareBytes, h1, h2, ih, cps, lss]
    by_cases a1 : x < y
    · simp [a1]
    · by_cases a2 : y < x
      · have : ¬ x = y := by omega
        have h3 : ¬ y = x := by omega
        simp [a1, a2, this, h3]
      · have : x = y := by omega
        subst this
        simp
theorem cmpB_st {a b : List Nat} (ha : Lt a) (hb : Lt b) : Lib.compareBytes (st a).data.toList (st b).data.toList = cps a b := by
  have hd : ∀ xs : List Nat, (st xs).data.toList = xs.map fun n => UInt8.ofNat n := fun xs => by simp [st]
  rw [hd, hd]
  exact cmpB_map (fun x hx => ha.mem hx) (fun x hx => hb.mem hx)
theorem cps_zero {a b : List Nat} : cps a b = 0 ↔ a = b := by
  unfold cps
  constructor
  · intro h
    by_cases h1 : lss a b = true
    · rw [if_pos h1] at h; omega
    · rw [if_neg h1] at h
      by_cases h2 : lss b a = true
      · rw [if_pos h2] at h; omega
      · refine Decidable.byContradiction fun e => h2 (lss_total (by simpa using h1) e)
  · rintro rfl
    simp [lss_self]
end By
end Go.Proofs.YtfobogcccbddbaaGreatDoor

/- strings.Clone of a text. Condition: the text is not too long. -/
namespace Go.Proofs.YtfobogcccbddbaaGreatDoor
namespace By
open Go.RowKit WireN CtN
set_option linter.unusedVariables false
set_option linter.unusedSimpArgs false

theorem Clone_s {x : Tx} (hx : TxOk x) (w : World) : Calls Tryz.prog 32 #[.string (st x)] w fun e w' => e = .returned (.string (st x)) ∧ Kp w w' := by
  have HC := Lib.hid (Tryz.stringslite_Clone (st x) w (by rw [st_size]; have := hx.2; omega))
  obtain ⟨S, hS⟩ : ∃ S, S = st x := ⟨_, rfl⟩
  rw [← hS] at HC ⊢
  clear hS
  go_enter Tryz.func32, Tryz.ntmps32
  go_wp2_with fail
  refine HC.out.mono ?_
  rintro e w1 ⟨rfl, hk⟩
  have HK := Lib.hid hk
  clear hk
  go_wp2_with fail
  go_ret
  exact ⟨rfl, HK.out⟩
end By
end Go.Proofs.YtfobogcccbddbaaGreatDoor
