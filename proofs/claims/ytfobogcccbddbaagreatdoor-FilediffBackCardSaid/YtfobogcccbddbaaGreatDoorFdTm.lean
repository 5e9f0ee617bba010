/- The files of a table, sorted by their paths, as the program makes them. Condition: at most a thousand files, whose strings are not longer than a machine allows. -/
import Derived.Test.YtfobogcccbddbaaGreatDoorZas
import Derived.Test.YtfobogcccbddbaaGreatDoorZaq
import Derived.Test.YtfobogcccbddbaaGreatDoorZan
import Derived.Maps.AppendAt
import Derived.Deep.RegionHeld3
import Derived.StillTailTactics
namespace Go.Proofs.YtfobogcccbddbaaGreatDoor
namespace By
open Go.RowKit WireN LexN RevN FdN CtN
set_option linter.unusedVariables false
set_option linter.unusedSimpArgs false

/-- A file as a slice of one, as a step of a region. -/
theorem step_bldG {wx : World} {ops : Array Oper} {o : Oper} {a : Act} {K : Act → World → Prop} {Q : Exit → Act → World → Prop} {E : Prop} (hgd : o.guard = none) (k j : Tmp)
    (ho : o.op = .buildSlice 23 1 #[(0, .tmp j)]) (hdst : o.dst = some k) {S1 S2 : ByteArray} (hx : a.eval (.tmp j) = .agg #[.string S1, .string S2])
    (h : ∀ w', w' = wx.alloc (.cells #[.string S1, .string S2] 53) → K (a.put (some k) (.slice (some ⟨wx.heap.size, 0, none⟩) 1 1)) w') :
    if Region.wanted o (yielded ops a.tmps) = true then Oper.wp Tryz.prog o a wx K Q else E := by
  have hw : Region.wanted o (yielded ops a.tmps) = true := by simp [Region.wanted, hgd]
  rw [if_pos hw]
  have hP := h _ rfl
  unfold Oper.wp
  have hx' : a.tmps[j]?.getD undef = .agg #[.string S1, .string S2] := by simpa [Act.eval] using hx
  simp [execOp, ho, resolve, hdst, hx', go_sem, Result.andThen]
  exact hP
set_option maxRecDepth 100000 in
/-- append of a file to a row of one's own, as a step of a region; where the new row lies. -/
theorem step_flb {w wx : World} {ops : Array Oper} {o : Oper} {a : Act} {K : Act → World → Prop} {Q : Exit → Act → World → Prop} {E : Prop} (hgd : o.guard = none) (s x : Operand)
    (ho : o.op = .call { callee := .builtin .append, args := #[s, x], argTypes := #[23, 23] })
    (v : Value) {fs : List Fl} (hs : a.eval s = v) (hown : OwF w wx v fs) (hsm : fs.length ≤ 1000000) (f : Fl) (hf : (Lt f.1 ∧ Lt f.2) ∧ (f.1.length ≤ maxLen ∧ f.2.length ≤ maxLen)) (g : Nat) (hx : a.eval x = .slice (some ⟨g, 0, none⟩) 1 1)
    (hc : Blk wx g 53 #[.string (st f.1), .string (st f.2)])
    (h : ∀ v' w', OwF w w' v' (fs ++ [f]) → wx.grownBy w' v.ownBlock → (v'.ownBlock = v.ownBlock ∨ v'.ownBlock = some wx.heap.size) → K (a.put o.dst v') w') :
    if Region.wanted o (yielded ops a.tmps) = true then Oper.wp Tryz.prog o a wx K Q else E := by
  have hw : Region.wanted o (yielded ops a.tmps) = true := by simp [Region.wanted, hgd]
  rw [if_pos hw]
  obtain ⟨i, hi, hz, hsize, hby⟩ := info_parts infoFile
  obtain ⟨v', w', hrun, h2, h3, h4, h5⟩ := run_append_own_at (P := Tryz.prog) wx w.heap.size 23 o.type 53 i _ 2 32 Tryz.underlying23 hi hz hsize hby rfl (by omega) v fs.length (fcel fs) hown.owns ⟨g, 0, none⟩ 1 1 [.string (st f.1), .string (st f.2)] rfl
    (fun j u hu => by
      rw [Addr.add_lit]
      refine hc.cell (0 + j) ?_
      rw [Nat.zero_add]
      simpa using hu) (fun u hu => by simp at hu; rcases hu with rfl | rfl <;> rfl) (by unfold maxLen; omega) (by omega) hown.kp.size
  have hown2 : OwF w w' v' (fs ++ [f]) := by
    refine ⟨?_, ?_, ?_, Below.grown hown.kp h3 hown.kp.size (fun k hk => ((row_form hown.owns).2 k hk).1)⟩
    · rw [List.length_append, fcel_snoc]; exact h2
    · intro y hy
      rcases List.mem_append.1 hy with hy | hy
      · exact hown.lt y hy
      · obtain rfl : y = f := by simpa using hy
        exact hf.1
    · intro y hy
      rcases List.mem_append.1 hy with hy | hy
      · exact hown.sm y hy
      · obtain rfl : y = f := by simpa using hy
        exact hf.2
  unfold Oper.wp
  simp [execOp, ho, resolve, invoke, builtin, hs, hx, hrun, Result.andThen]
  exact h v' w' hown2 h3 h5
/-- The files of the first keys. -/
def rF (m : FM) (ts : List Tx) : List Fl := ts.map fun p => (p, (m p).getD [])
theorem rF_snoc {m : FM} {ts : List Tx} {k : Nat} {p : Tx} (h : ts[k]? = some p) : rF m (ts.take (k + 1)) = rF m (ts.take k) ++ [(p, (m p).getD [])] := by
  unfold rF
  rw [List.take_add_one, h, List.map_append]
  rfl
theorem rF_sfs {m : FM} {ts : List Tx} (h : Skeys m ts) (hm : ∀ p y, m p = some y → Lt p) : Sfs m (rF m ts) := by
  refine ⟨by unfold rF; rw [List.pairwise_map]; exact h.srt, fun p y => ?_⟩
  unfold rF
  rw [List.mem_map]
  constructor
  · rintro ⟨q, hq, e⟩
    simp only [Prod.mk.injEq] at e
    obtain ⟨rfl, rfl⟩ := e
    have := (h.mem q (h.lt q hq)).1 hq
    cases hc : m q with
    | none => rw [hc] at this; cases this
    | some y => rfl
  · intro hp
    exact ⟨p, (h.mem p (hm p y hp)).2 (by rw [hp]; rfl), by rw [hp]; rfl⟩
set_option maxRecDepth 100000 in
set_option maxHeartbeats 16000000 in
theorem ascending_any {w : World} {mb nn : Nat} {m : FM} (hm : TM w mb nn m) (hn : nn ≤ 1000) (hk : ∀ p y, m p = some y → Lt p ∧ p.length ≤ 140737488355328 ∧ Lt y ∧ y.length ≤ 140737488355328) :
    Calls Tryz.prog 42 #[.map (some mb)] w fun e w' => ∃ u r, e = .returned (.agg #[u]) ∧ Rw w' u r ∧ Sfs m r ∧ (∀ b, u.ownBlock = some b → w.heap.size ≤ b) ∧ Kp w w' := by
  obtain ⟨Q, hQ⟩ : ∃ Q : Ending → World → Prop, Q = fun e w' => ∃ u r, e = .returned (.agg #[u]) ∧ Rw w' u r ∧ Sfs m r ∧ (∀ b, u.ownBlock = some b → w.heap.size ≤ b) ∧ Kp w w' := ⟨_, rfl⟩
  rw [← hQ]
  obtain ⟨W0, hW0⟩ : ∃ W, W = w.alloc (.cells #[.slice none 0 0] 25) := ⟨_, rfl⟩
  obtain ⟨po, hpo⟩ : ∃ b, b = w.heap.size := ⟨_, rfl⟩
  have hk0 : Kp w W0 := by rw [hW0]; exact kp_alloc _ _
  have hb0 : Blk W0 po 25 #[.slice none 0 0] := by rw [hW0, hpo]; exact Blk.new _ _ _
  have FINE : Hid (∀ (t : Act) (X X2 : World) (u : Value) (r : List Fl), X2 = X.setCell ⟨po, 0, none⟩ u → Blk X po 25 #[u] → t.defers = [] → t.tmps.getD 2 undef = .pointer (some ⟨po, 0, none⟩) → OwF w X u r → (∀ b, u.ownBlock = some b → b ≠ po) → Sfs m r → bodyPost Tryz.prog Tryz.f42 Q .ret t X2) := Lib.hid (by
    intro t X X2 u r hx hb h1 h2 ho hne hs
    rw [hb.self rfl] at hx
    subst hx
    have e0 := hb.cell 0 rfl
    have h2' : t.tmps[2]?.getD undef = .pointer (some ⟨po, 0, none⟩) := by simpa using h2
    obtain ⟨⟨v1, v2, v3, rfl⟩, -⟩ := row_form ho.owns
    refine bodyPost_ret (v := .agg #[.slice v1 v2 v3]) (by simp [results, Tryz.results42, go_sem, h2', e0]) h1 ?_
    rw [hQ]
    exact ⟨_, r, rfl, ho.rw, hs, fun b hb => ((row_form ho.owns).2 b hb).1, ho.kp⟩)
  have HMT := Lib.hid hm; have HNN := Lib.hid hn; have HKK := Lib.hid hk
  have HKS := Lib.hid (keys_sorted (hm.keep hk0) hn (fun p hp => by
    obtain ⟨y, hy⟩ := Option.isSome_iff_exists.1 hp
    exact (hk p y hy).2.1))
  have HKC := Lib.hid (Keys_c (some mb) W0)
  have HW0 := Lib.hid hW0; have HPE := Lib.hid hpo; have HK0 := Lib.hid hk0; have HB0 := Lib.hid hb0
  obtain ⟨kf, hkf⟩ : ∃ b, b = W0.heap.size := ⟨_, rfl⟩
  have HKF := Lib.hid hkf
  rw [← hkf] at HKS HKC
  clear hm hn hk hQ hW0 hpo hk0 hb0 hkf
  go_enter Tryz.func42, Tryz.ntmps42
  go_wp2_with fail
  rw [← HPE.out, ← HW0.out]
  refine HKC.out.mono ?_
  rintro e w1 ⟨rfl, hw1⟩
  obtain ⟨W1, hW1⟩ : ∃ W, W = W0.alloc (.cells #[.map (some mb)] 58) := ⟨_, rfl⟩
  rw [← hW1] at hw1 HKS
  have HK1 : Hid (Kp W0 W1) := Lib.hid (by rw [hW1]; exact kp_alloc _ _)
  subst hw1
  clear hW1
  go_wp2_with fail
  refine HKS.out.mono ?_
  rintro e w2 ⟨v2, ts, rfl, ht2, hsk, hlt, hvb, hk2⟩
  have HK2 := Lib.hid ((HK0.out.trans HK1.out).trans hk2)
  have HPO2 := Lib.hid (HB0.out.keep (HK1.out.trans hk2))
  have HT := Lib.hid ht2; have HSK := Lib.hid hsk; have HVB0 := Lib.hid hvb
  obtain ⟨ao, cap, rfl, hcap, -, -⟩ := ht2.open3
  obtain ⟨N, hN⟩ : ∃ N, N = ts.length := ⟨_, rfl⟩
  rw [← hN] at HT hcap HVB0 ⊢
  have HNL := Lib.hid hN
  have i1 : (N : Int) ≤ (cap : Int) := by omega
  have i2 : (N : Int) ≤ 1000 := by have := HNN.out; omega
  obtain ⟨lo, hlo⟩ : ∃ l, l = w2.heap.size := ⟨_, rfl⟩
  have HLO : Hid (w.heap.size ≤ lo ∧ po < lo) := Lib.hid ⟨by have := HK2.out.size; omega, by have := HPO2.out.lt; omega⟩
  have HVB : Hid (∀ b, (Value.slice ao N cap).ownBlock = some b → b < lo ∧ b ≠ po) := Lib.hid (by
    intro b hb
    have h1 := HVB0.out b hb
    have h2 := HPE.out; have h3 := HK0.out.size; have h4 := HB0.out.lt; have h5 := HKF.out
    omega)
  clear ht2 hsk hlt hk2 hcap hN hvb
  go_wp2_with fail
  go_loopw [9] (fun iv wy => ∃ (k : Nat) (u : Value), k ≤ N ∧ iv = .int .i64 k ∧ Hid (ApS w wy po u (rF m (ts.take k))) ∧ Hid (Tw wy (.slice ao N cap) ts) ∧ Hid (lo ≤ wy.heap.size ∧ ∀ b, u.ownBlock = some b → lo ≤ b)) (fun iv _ => N - (intOf iv).toNat)
  case atStart => exact ⟨0, _, Nat.zero_le _, rfl, Lib.hid ⟨(OwF.start w).keep HK2.out, HPO2.out, fun b hb => by simp [Value.ownBlock] at hb, by have := HPE.out; omega⟩, HT, Lib.hid ⟨by omega, fun b hb => by simp [Value.ownBlock] at hb⟩⟩
  case round =>
    obtain ⟨k, u, hk, rfl, HAP, HTY, HU⟩ := hrel
    rename World => wy
    obtain ⟨⟨u1, u2, u3, rfl⟩, -⟩ := row_form HAP.out.ow.owns
    by_cases hil : k < N
    · obtain ⟨p, hp⟩ : ∃ p, ts[k]? = some p := ⟨_, List.getElem?_eq_getElem (by have := HNL.out; omega)⟩
      obtain ⟨g, o, rfl, hcell⟩ := HTY.out.cell (by omega)
      have d0 := hcell k p hp
      have hpm := List.mem_of_getElem? hp
      have hpl := HSK.out.lt p hpm
      obtain ⟨y, hy⟩ := Option.isSome_iff_exists.1 ((HSK.out.mem p hpl).1 hpm)
      obtain ⟨-, hq2, hq3, hq4⟩ := HKK.out p y hy
      have hgd : (m p).getD [] = y := by rw [hy]; rfl
      have j1 : (k : Int) < (N : Int) := by omega
      obtain ⟨P, hP⟩ : ∃ S, S = st p := ⟨_, rfl⟩
      obtain ⟨Z, hZ⟩ : ∃ S, S = st ((m p).getD []) := ⟨_, rfl⟩
      rw [← hP] at d0
      have CP : Hid (∀ Wx, Calls Tryz.prog 32 #[.string P] Wx fun e w' => e = .returned (.string P) ∧ Kp Wx w') := Lib.hid (fun Wx => by rw [hP]; exact Clone_s ⟨hpl, hq2⟩ Wx)
      have CZ : Hid (∀ Wx, Calls Tryz.prog 32 #[.string Z] Wx fun e w' => e = .returned (.string Z) ∧ Kp Wx w') := Lib.hid (fun Wx => by rw [hZ, hgd]; exact Clone_s ⟨hq3, hq4⟩ Wx)
      have HFL : Hid ((Lt (p, (m p).getD []).1 ∧ Lt (p, (m p).getD []).2) ∧ ((p, (m p).getD []).1.length ≤ maxLen ∧ (p, (m p).getD []).2.length ≤ maxLen)) := Lib.hid (by
        rw [hgd]
        exact ⟨⟨hpl, hq3⟩, by show p.length ≤ _; unfold maxLen; omega, by show y.length ≤ _; unfold maxLen; omega⟩)
      have LK : Hid (∀ Wx, Kp w Wx → (Instr.lookup 58 (.map (some mb)) (.string P) false).run Tryz.prog Wx = .ok (.string Z) Wx) := Lib.hid (fun Wx hkx => by
        have h := (HMT.out.keep hkx).get1 hpl (show p.length ≤ maxLen by unfold maxLen; omega)
        rw [← hP, ← hZ] at h
        exact h)
      have HLN : Hid ((rF m (ts.take k)).length ≤ 1000000) := Lib.hid (by unfold rF; rw [List.length_map]; have := List.length_take_le k ts; omega)
      have HRS := Lib.hid (rF_snoc (m := m) hp)
      have HPP := Lib.hid hP; have HZZ := Lib.hid hZ
      have HPO := Lib.hid HAP.out.bq; have HOW := Lib.hid HAP.out.ow
      have HKW := Lib.hid HAP.out.kp
      have NX : Hid (∀ (W7 W8 : World) (v8 : Value), Kp wy W7 → OwF w W8 v8 (rF m (ts.take k) ++ [(p, (m p).getD [])]) → W7.grownBy W8 (Value.slice u1 u2 u3).ownBlock → (v8.ownBlock = (Value.slice u1 u2 u3).ownBlock ∨ v8.ownBlock = some W7.heap.size) →
          Blk W8 po 25 #[.slice u1 u2 u3] ∧ ApS w (W8.setCell ⟨po, 0, none⟩ v8) po v8 (rF m (ts.take (k + 1))) ∧ Tw (W8.setCell ⟨po, 0, none⟩ v8) (.slice (some ⟨g, o, none⟩) N cap) ts ∧ (lo ≤ (W8.setCell ⟨po, 0, none⟩ v8).heap.size ∧ ∀ b, v8.ownBlock = some b → lo ≤ b) ∧ Kp w (W8.setCell ⟨po, 0, none⟩ v8)) := Lib.hid (by
        intro W7 W8 v8 h1 h2 h3 h4
        have hap := (HAP.out.keep h1).app h2 h3 h4
        rw [← HRS.out] at hap
        have hlo7 : lo ≤ W7.heap.size := Nat.le_trans HU.out.1 h1.size
        have hset : W8.grownBy (W8.setCell ⟨po, 0, none⟩ v8) (some po) := Only.gr ((Only.refl po W8).set 0 v8)
        refine ⟨HPO.out.keep h1 |>.by h3 (fun e => HAP.out.ne _ e.symm rfl), hap, ?_, ⟨?_, fun b hb => ?_⟩, hap.kp⟩
        · refine Tw.by (Tw.by (HTY.out.keep h1) h3 (fun b hb e => ?_)) hset (fun b hb e => ?_)
          · have := HU.out.2 b e; have := (HVB.out b hb).1; omega
          · injection e with e; exact (HVB.out b hb).2 e.symm
        · have := h3.size; have := hset.size; omega
        · rcases h4 with e | e
          · exact HU.out.2 b (by rw [← e]; exact hb)
          · rw [e] at hb; injection hb with hb; omega)
      clear hcell hp hpm hpl hy hq2 hq3 hq4 hgd hP hZ
      go_upto_region 4 with fail
      clear d0
      obtain ⟨W4, hW4⟩ : ∃ W4, W4 = World.drew wy := ⟨_, rfl⟩
      have k4 : Kp wy W4 := (by rw [hW4]; exact ⟨rfl, rfl, rfl, Nat.le_refl _, fun _ _ => rfl⟩)
      have c4 := (HPO.out.keep k4).cell 0 rfl
      refine wp_region_held_drew (S := (fun w' => (Instr.lookup 58 (.map (some mb)) (.string P) false).run Tryz.prog w' = .ok (.string Z) w')) (by kernel_rfl) ?_ (fun hHeld => ?_)
      · rw [← hW4]; exact LK.out _ (HKW.out.trans k4)
      rw [← hW4] at hHeld ⊢
      clear hW4
      refine wpAnyH_take (i := 0) (v := (.pointer (some ⟨po, 0, none⟩))) rfl (by kernel_rfl) (by kernel_rfl) (by kernel_rfl) (fun _ _ _ h => h) (Or.inl ⟨by rfl, ?_⟩) (by assumption) ?_
      · (intro wq hSw; have s0 := hSw; go_simp)
      try simp only [Act.put, List.getElem_toArray, List.getElem_cons_zero, List.getElem_cons_succ, List.setIfInBounds_toArray, List.set_cons_zero, List.set_cons_succ]
      refine wpAnyH_take (i := 2) (v := (.string P)) rfl (by kernel_rfl) (by kernel_rfl) (by kernel_rfl) (fun _ _ _ h => h) (Or.inl ⟨by rfl, ?_⟩) (by assumption) ?_
      · (intro wq hSw; have s0 := hSw; go_simp)
      try simp only [Act.put, List.getElem_toArray, List.getElem_cons_zero, List.getElem_cons_succ, List.setIfInBounds_toArray, List.set_cons_zero, List.set_cons_succ]
      refine wpAnyH_take (i := 4) (v := (.map (some mb))) rfl (by kernel_rfl) (by kernel_rfl) (by kernel_rfl) (fun _ _ _ h => h) (Or.inl ⟨by rfl, ?_⟩) (by assumption) ?_
      · (intro wq hSw; have s0 := hSw; go_simp)
      try simp only [Act.put, List.getElem_toArray, List.getElem_cons_zero, List.getElem_cons_succ, List.setIfInBounds_toArray, List.set_cons_zero, List.set_cons_succ]
      refine wpAnyH_take (i := 5) (v := (.string P)) rfl (by kernel_rfl) (by kernel_rfl) (by kernel_rfl) (fun _ _ _ h => h) (Or.inl ⟨by rfl, ?_⟩) (by assumption) ?_
      · (intro wq hSw; have s0 := hSw; go_simp)
      try simp only [Act.put, List.getElem_toArray, List.getElem_cons_zero, List.getElem_cons_succ, List.setIfInBounds_toArray, List.set_cons_zero, List.set_cons_succ]
      refine wpAnyH_take (i := 6) (v := (.string Z)) rfl (by kernel_rfl) (by kernel_rfl) (by kernel_rfl) (fun _ _ _ h => h) (Or.inl ⟨by rfl, ?_⟩) (by assumption) ?_
      · (intro wq hSw; have s0 := hSw; go_simp)
      try simp only [Act.put, List.getElem_toArray, List.getElem_cons_zero, List.getElem_cons_succ, List.setIfInBounds_toArray, List.set_cons_zero, List.set_cons_succ]
      clear hHeld
      refine wpAnyH_ready (rs := [1, 3]) (by kernel_rfl) (by simp) (AllReadyH.cons rfl (fun KK hK => ?_) (AllReadyH.cons rfl (fun KK hK => ?_) AllReadyH.nil))
      · go_simp
        refine hK.out _ _ (by first | exact LK.out _ KK9 | exact LK.out _ KK8 | exact LK.out _ KK7 | exact LK.out _ KK6 | exact LK.out _ KK5 | exact LK.out _ (HKW.out.trans k4)) (fun hHeld => ?_)
        clear hHeld hK KK
        try simp only [Act.put, List.getElem_toArray, List.getElem_cons_zero, List.getElem_cons_succ, List.setIfInBounds_toArray, List.set_cons_zero, List.set_cons_succ]
        refine wpAnyH_ready (rs := [3]) (by kernel_rfl) (by simp) (AllReadyH.cons rfl (fun KK hK => ?_) AllReadyH.nil)
        (go_simp; go_at_call 32; refine (CP.out _).mono ?_; rintro e w5 ⟨rfl, hk5⟩; have k5 := k4.trans hk5; have c5 := (HPO.out.keep k5).cell 0 rfl; have KK5 := HKW.out.trans k5; clear hk5)
        refine hK.out _ _ (by first | exact LK.out _ KK9 | exact LK.out _ KK8 | exact LK.out _ KK7 | exact LK.out _ KK6 | exact LK.out _ KK5 | exact LK.out _ (HKW.out.trans k4)) (fun hHeld => ?_)
        clear hHeld hK KK
        try simp only [Act.put, List.getElem_toArray, List.getElem_cons_zero, List.getElem_cons_succ, List.setIfInBounds_toArray, List.set_cons_zero, List.set_cons_succ]
        refine wpAnyH_ready (rs := [7]) (by kernel_rfl) (by simp) (AllReadyH.cons rfl (fun KK hK => ?_) AllReadyH.nil)
        (go_simp; go_at_call 32; refine (CZ.out _).mono ?_; rintro e w6 ⟨rfl, hk6⟩; have k6 := k5.trans hk6; have c6 := (HPO.out.keep k6).cell 0 rfl; have KK6 := HKW.out.trans k6; clear hk6)
        refine hK.out _ _ (by first | exact LK.out _ KK9 | exact LK.out _ KK8 | exact LK.out _ KK7 | exact LK.out _ KK6 | exact LK.out _ KK5 | exact LK.out _ (HKW.out.trans k4)) (fun hHeld => ?_)
        clear hHeld hK KK
        try simp only [Act.put, List.getElem_toArray, List.getElem_cons_zero, List.getElem_cons_succ, List.setIfInBounds_toArray, List.set_cons_zero, List.set_cons_succ]
        refine wpAnyH_ready (rs := [8]) (by kernel_rfl) (by simp) (AllReadyH.cons rfl (fun KK hK => ?_) AllReadyH.nil)
        go_simp
        refine hK.out _ _ (by first | exact LK.out _ KK9 | exact LK.out _ KK8 | exact LK.out _ KK7 | exact LK.out _ KK6 | exact LK.out _ KK5 | exact LK.out _ (HKW.out.trans k4)) (fun hHeld => ?_)
        clear hHeld hK KK
        try simp only [Act.put, List.getElem_toArray, List.getElem_cons_zero, List.getElem_cons_succ, List.setIfInBounds_toArray, List.set_cons_zero, List.set_cons_succ]
        refine wpAnyH_ready (rs := [9]) (by kernel_rfl) (by simp) (AllReadyH.cons rfl (fun KK hK => ?_) AllReadyH.nil)
        (refine step_bldG rfl 22 21 rfl rfl rfl ?_; intro W7 hW7; have h67 : Kp w6 W7 := (by rw [hW7]; exact kp_alloc _ _); have k7 := k6.trans h67; have b7 : Blk W7 w6.heap.size 53 #[.string (st p), .string (st ((m p).getD []))] := (by rw [hW7, HPP.out, HZZ.out]; exact Blk.new _ _ _); have c7 := (HPO.out.keep k7).cell 0 rfl; have KK7 := HKW.out.trans k7; clear h67 hW7)
        refine hK.out _ _ (by first | exact LK.out _ KK9 | exact LK.out _ KK8 | exact LK.out _ KK7 | exact LK.out _ KK6 | exact LK.out _ KK5 | exact LK.out _ (HKW.out.trans k4)) (fun hHeld => ?_)
        clear hHeld hK KK
        try simp only [Act.put, List.getElem_toArray, List.getElem_cons_zero, List.getElem_cons_succ, List.setIfInBounds_toArray, List.set_cons_zero, List.set_cons_succ]
        refine wpAnyH_ready (rs := [10]) (by kernel_rfl) (by simp) (AllReadyH.cons rfl (fun KK hK => ?_) AllReadyH.nil)
        (refine step_flb (w := w) rfl (.tmp 14) (.tmp 22) rfl (.slice u1 u2 u3) rfl (HOW.out.keep k7) HLN.out (p, (m p).getD []) HFL.out w6.heap.size rfl b7 ?_; intro v8 W8 ho8 hg8 hb8; obtain ⟨⟨x1, x2, x3, rfl⟩, -⟩ := row_form ho8.owns; have HN8 := Lib.hid (NX.out _ _ _ k7 ho8 hg8 hb8); have c8 := HN8.out.1.cell 0 rfl; have f8 := HN8.out.1.free 0; have KK8 := ho8.kp; clear ho8 hg8 hb8)
        refine hK.out _ _ (by first | exact LK.out _ KK9 | exact LK.out _ KK8 | exact LK.out _ KK7 | exact LK.out _ KK6 | exact LK.out _ KK5 | exact LK.out _ (HKW.out.trans k4)) (fun hHeld => ?_)
        clear hHeld hK KK
        try simp only [Act.put, List.getElem_toArray, List.getElem_cons_zero, List.getElem_cons_succ, List.setIfInBounds_toArray, List.set_cons_zero, List.set_cons_succ]
        refine wpAnyH_ready (rs := [11]) (by kernel_rfl) (by simp) (AllReadyH.cons rfl (fun KK hK => ?_) AllReadyH.nil)
        go_simp
        refine hK.out _ _ (by first | exact LK.out _ KK9 | exact LK.out _ KK8 | exact LK.out _ KK7 | exact LK.out _ KK6 | exact LK.out _ KK5 | exact LK.out _ (HKW.out.trans k4)) (fun hHeld => ?_)
        clear hHeld hK KK
        try simp only [Act.put, List.getElem_toArray, List.getElem_cons_zero, List.getElem_cons_succ, List.setIfInBounds_toArray, List.set_cons_zero, List.set_cons_succ]
        refine wpAnyH_ready (rs := [12]) (by kernel_rfl) (by simp) (AllReadyH.cons rfl (fun KK hK => ?_) AllReadyH.nil)
        (go_simp; have KK9 := HN8.out.2.2.2.2)
        refine hK.out _ _ (by first | exact LK.out _ KK9 | exact LK.out _ KK8 | exact LK.out _ KK7 | exact LK.out _ KK6 | exact LK.out _ KK5 | exact LK.out _ (HKW.out.trans k4)) (fun hHeld => ?_)
        clear hHeld hK KK
        try simp only [Act.put, List.getElem_toArray, List.getElem_cons_zero, List.getElem_cons_succ, List.setIfInBounds_toArray, List.set_cons_zero, List.set_cons_succ]
        refine wpAnyH_done (by kernel_rfl) ?_ _
        clear k4
        go_wp2_with fail
        go_roundw
        case rel => exact ⟨k + 1, _, by omega, vint (by omega), Lib.hid HN8.out.2.1, Lib.hid HN8.out.2.2.1, Lib.hid HN8.out.2.2.2.1⟩
        case measure => simp [intOf]; omega
      · (go_simp; go_at_call 32; refine (CP.out _).mono ?_; rintro e w5 ⟨rfl, hk5⟩; have k5 := k4.trans hk5; have c5 := (HPO.out.keep k5).cell 0 rfl; have KK5 := HKW.out.trans k5; clear hk5)
        refine hK.out _ _ (by first | exact LK.out _ KK9 | exact LK.out _ KK8 | exact LK.out _ KK7 | exact LK.out _ KK6 | exact LK.out _ KK5 | exact LK.out _ (HKW.out.trans k4)) (fun hHeld => ?_)
        clear hHeld hK KK
        try simp only [Act.put, List.getElem_toArray, List.getElem_cons_zero, List.getElem_cons_succ, List.setIfInBounds_toArray, List.set_cons_zero, List.set_cons_succ]
        refine wpAnyH_ready (rs := [1, 7]) (by kernel_rfl) (by simp) (AllReadyH.cons rfl (fun KK hK => ?_) (AllReadyH.cons rfl (fun KK hK => ?_) AllReadyH.nil))
        · go_simp
          refine hK.out _ _ (by first | exact LK.out _ KK9 | exact LK.out _ KK8 | exact LK.out _ KK7 | exact LK.out _ KK6 | exact LK.out _ KK5 | exact LK.out _ (HKW.out.trans k4)) (fun hHeld => ?_)
          clear hHeld hK KK
          try simp only [Act.put, List.getElem_toArray, List.getElem_cons_zero, List.getElem_cons_succ, List.setIfInBounds_toArray, List.set_cons_zero, List.set_cons_succ]
          refine wpAnyH_ready (rs := [7]) (by kernel_rfl) (by simp) (AllReadyH.cons rfl (fun KK hK => ?_) AllReadyH.nil)
          (go_simp; go_at_call 32; refine (CZ.out _).mono ?_; rintro e w6 ⟨rfl, hk6⟩; have k6 := k5.trans hk6; have c6 := (HPO.out.keep k6).cell 0 rfl; have KK6 := HKW.out.trans k6; clear hk6)
          refine hK.out _ _ (by first | exact LK.out _ KK9 | exact LK.out _ KK8 | exact LK.out _ KK7 | exact LK.out _ KK6 | exact LK.out _ KK5 | exact LK.out _ (HKW.out.trans k4)) (fun hHeld => ?_)
          clear hHeld hK KK
          try simp only [Act.put, List.getElem_toArray, List.getElem_cons_zero, List.getElem_cons_succ, List.setIfInBounds_toArray, List.set_cons_zero, List.set_cons_succ]
          refine wpAnyH_ready (rs := [8]) (by kernel_rfl) (by simp) (AllReadyH.cons rfl (fun KK hK => ?_) AllReadyH.nil)
          go_simp
          refine hK.out _ _ (by first | exact LK.out _ KK9 | exact LK.out _ KK8 | exact LK.out _ KK7 | exact LK.out _ KK6 | exact LK.out _ KK5 | exact LK.out _ (HKW.out.trans k4)) (fun hHeld => ?_)
          clear hHeld hK KK
          try simp only [Act.put, List.getElem_toArray, List.getElem_cons_zero, List.getElem_cons_succ, List.setIfInBounds_toArray, List.set_cons_zero, List.set_cons_succ]
          refine wpAnyH_ready (rs := [9]) (by kernel_rfl) (by simp) (AllReadyH.cons rfl (fun KK hK => ?_) AllReadyH.nil)
          (refine step_bldG rfl 22 21 rfl rfl rfl ?_; intro W7 hW7; have h67 : Kp w6 W7 := (by rw [hW7]; exact kp_alloc _ _); have k7 := k6.trans h67; have b7 : Blk W7 w6.heap.size 53 #[.string (st p), .string (st ((m p).getD []))] := (by rw [hW7, HPP.out, HZZ.out]; exact Blk.new _ _ _); have c7 := (HPO.out.keep k7).cell 0 rfl; have KK7 := HKW.out.trans k7; clear h67 hW7)
          refine hK.out _ _ (by first | exact LK.out _ KK9 | exact LK.out _ KK8 | exact LK.out _ KK7 | exact LK.out _ KK6 | exact LK.out _ KK5 | exact LK.out _ (HKW.out.trans k4)) (fun hHeld => ?_)
          clear hHeld hK KK
          try simp only [Act.put, List.getElem_toArray, List.getElem_cons_zero, List.getElem_cons_succ, List.setIfInBounds_toArray, List.set_cons_zero, List.set_cons_succ]
          refine wpAnyH_ready (rs := [10]) (by kernel_rfl) (by simp) (AllReadyH.cons rfl (fun KK hK => ?_) AllReadyH.nil)
          (refine step_flb (w := w) rfl (.tmp 14) (.tmp 22) rfl (.slice u1 u2 u3) rfl (HOW.out.keep k7) HLN.out (p, (m p).getD []) HFL.out w6.heap.size rfl b7 ?_; intro v8 W8 ho8 hg8 hb8; obtain ⟨⟨x1, x2, x3, rfl⟩, -⟩ := row_form ho8.owns; have HN8 := Lib.hid (NX.out _ _ _ k7 ho8 hg8 hb8); have c8 := HN8.out.1.cell 0 rfl; have f8 := HN8.out.1.free 0; have KK8 := ho8.kp; clear ho8 hg8 hb8)
          refine hK.out _ _ (by first | exact LK.out _ KK9 | exact LK.out _ KK8 | exact LK.out _ KK7 | exact LK.out _ KK6 | exact LK.out _ KK5 | exact LK.out _ (HKW.out.trans k4)) (fun hHeld => ?_)
          clear hHeld hK KK
          try simp only [Act.put, List.getElem_toArray, List.getElem_cons_zero, List.getElem_cons_succ, List.setIfInBounds_toArray, List.set_cons_zero, List.set_cons_succ]
          refine wpAnyH_ready (rs := [11]) (by kernel_rfl) (by simp) (AllReadyH.cons rfl (fun KK hK => ?_) AllReadyH.nil)
          go_simp
          refine hK.out _ _ (by first | exact LK.out _ KK9 | exact LK.out _ KK8 | exact LK.out _ KK7 | exact LK.out _ KK6 | exact LK.out _ KK5 | exact LK.out _ (HKW.out.trans k4)) (fun hHeld => ?_)
          clear hHeld hK KK
          try simp only [Act.put, List.getElem_toArray, List.getElem_cons_zero, List.getElem_cons_succ, List.setIfInBounds_toArray, List.set_cons_zero, List.set_cons_succ]
          refine wpAnyH_ready (rs := [12]) (by kernel_rfl) (by simp) (AllReadyH.cons rfl (fun KK hK => ?_) AllReadyH.nil)
          (go_simp; have KK9 := HN8.out.2.2.2.2)
          refine hK.out _ _ (by first | exact LK.out _ KK9 | exact LK.out _ KK8 | exact LK.out _ KK7 | exact LK.out _ KK6 | exact LK.out _ KK5 | exact LK.out _ (HKW.out.trans k4)) (fun hHeld => ?_)
          clear hHeld hK KK
          try simp only [Act.put, List.getElem_toArray, List.getElem_cons_zero, List.getElem_cons_succ, List.setIfInBounds_toArray, List.set_cons_zero, List.set_cons_succ]
          refine wpAnyH_done (by kernel_rfl) ?_ _
          clear k4
          go_wp2_with fail
          go_roundw
          case rel => exact ⟨k + 1, _, by omega, vint (by omega), Lib.hid HN8.out.2.1, Lib.hid HN8.out.2.2.1, Lib.hid HN8.out.2.2.2.1⟩
          case measure => simp [intOf]; omega
        · (go_simp; go_at_call 32; refine (CZ.out _).mono ?_; rintro e w6 ⟨rfl, hk6⟩; have k6 := k5.trans hk6; have c6 := (HPO.out.keep k6).cell 0 rfl; have KK6 := HKW.out.trans k6; clear hk6)
          refine hK.out _ _ (by first | exact LK.out _ KK9 | exact LK.out _ KK8 | exact LK.out _ KK7 | exact LK.out _ KK6 | exact LK.out _ KK5 | exact LK.out _ (HKW.out.trans k4)) (fun hHeld => ?_)
          clear hHeld hK KK
          try simp only [Act.put, List.getElem_toArray, List.getElem_cons_zero, List.getElem_cons_succ, List.setIfInBounds_toArray, List.set_cons_zero, List.set_cons_succ]
          refine wpAnyH_ready (rs := [1, 8]) (by kernel_rfl) (by simp) (AllReadyH.cons rfl (fun KK hK => ?_) (AllReadyH.cons rfl (fun KK hK => ?_) AllReadyH.nil))
          · go_simp
            refine hK.out _ _ (by first | exact LK.out _ KK9 | exact LK.out _ KK8 | exact LK.out _ KK7 | exact LK.out _ KK6 | exact LK.out _ KK5 | exact LK.out _ (HKW.out.trans k4)) (fun hHeld => ?_)
            clear hHeld hK KK
            try simp only [Act.put, List.getElem_toArray, List.getElem_cons_zero, List.getElem_cons_succ, List.setIfInBounds_toArray, List.set_cons_zero, List.set_cons_succ]
            refine wpAnyH_ready (rs := [8]) (by kernel_rfl) (by simp) (AllReadyH.cons rfl (fun KK hK => ?_) AllReadyH.nil)
            go_simp
            refine hK.out _ _ (by first | exact LK.out _ KK9 | exact LK.out _ KK8 | exact LK.out _ KK7 | exact LK.out _ KK6 | exact LK.out _ KK5 | exact LK.out _ (HKW.out.trans k4)) (fun hHeld => ?_)
            clear hHeld hK KK
            try simp only [Act.put, List.getElem_toArray, List.getElem_cons_zero, List.getElem_cons_succ, List.setIfInBounds_toArray, List.set_cons_zero, List.set_cons_succ]
            refine wpAnyH_ready (rs := [9]) (by kernel_rfl) (by simp) (AllReadyH.cons rfl (fun KK hK => ?_) AllReadyH.nil)
            (refine step_bldG rfl 22 21 rfl rfl rfl ?_; intro W7 hW7; have h67 : Kp w6 W7 := (by rw [hW7]; exact kp_alloc _ _); have k7 := k6.trans h67; have b7 : Blk W7 w6.heap.size 53 #[.string (st p), .string (st ((m p).getD []))] := (by rw [hW7, HPP.out, HZZ.out]; exact Blk.new _ _ _); have c7 := (HPO.out.keep k7).cell 0 rfl; have KK7 := HKW.out.trans k7; clear h67 hW7)
            refine hK.out _ _ (by first | exact LK.out _ KK9 | exact LK.out _ KK8 | exact LK.out _ KK7 | exact LK.out _ KK6 | exact LK.out _ KK5 | exact LK.out _ (HKW.out.trans k4)) (fun hHeld => ?_)
            clear hHeld hK KK
            try simp only [Act.put, List.getElem_toArray, List.getElem_cons_zero, List.getElem_cons_succ, List.setIfInBounds_toArray, List.set_cons_zero, List.set_cons_succ]
            refine wpAnyH_ready (rs := [10]) (by kernel_rfl) (by simp) (AllReadyH.cons rfl (fun KK hK => ?_) AllReadyH.nil)
            (refine step_flb (w := w) rfl (.tmp 14) (.tmp 22) rfl (.slice u1 u2 u3) rfl (HOW.out.keep k7) HLN.out (p, (m p).getD []) HFL.out w6.heap.size rfl b7 ?_; intro v8 W8 ho8 hg8 hb8; obtain ⟨⟨x1, x2, x3, rfl⟩, -⟩ := row_form ho8.owns; have HN8 := Lib.hid (NX.out _ _ _ k7 ho8 hg8 hb8); have c8 := HN8.out.1.cell 0 rfl; have f8 := HN8.out.1.free 0; have KK8 := ho8.kp; clear ho8 hg8 hb8)
            refine hK.out _ _ (by first | exact LK.out _ KK9 | exact LK.out _ KK8 | exact LK.out _ KK7 | exact LK.out _ KK6 | exact LK.out _ KK5 | exact LK.out _ (HKW.out.trans k4)) (fun hHeld => ?_)
            clear hHeld hK KK
            try simp only [Act.put, List.getElem_toArray, List.getElem_cons_zero, List.getElem_cons_succ, List.setIfInBounds_toArray, List.set_cons_zero, List.set_cons_succ]
            refine wpAnyH_ready (rs := [11]) (by kernel_rfl) (by simp) (AllReadyH.cons rfl (fun KK hK => ?_) AllReadyH.nil)
            go_simp
            refine hK.out _ _ (by first | exact LK.out _ KK9 | exact LK.out _ KK8 | exact LK.out _ KK7 | exact LK.out _ KK6 | exact LK.out _ KK5 | exact LK.out _ (HKW.out.trans k4)) (fun hHeld => ?_)
            clear hHeld hK KK
            try simp only [Act.put, List.getElem_toArray, List.getElem_cons_zero, List.getElem_cons_succ, List.setIfInBounds_toArray, List.set_cons_zero, List.set_cons_succ]
            refine wpAnyH_ready (rs := [12]) (by kernel_rfl) (by simp) (AllReadyH.cons rfl (fun KK hK => ?_) AllReadyH.nil)
            (go_simp; have KK9 := HN8.out.2.2.2.2)
            refine hK.out _ _ (by first | exact LK.out _ KK9 | exact LK.out _ KK8 | exact LK.out _ KK7 | exact LK.out _ KK6 | exact LK.out _ KK5 | exact LK.out _ (HKW.out.trans k4)) (fun hHeld => ?_)
            clear hHeld hK KK
            try simp only [Act.put, List.getElem_toArray, List.getElem_cons_zero, List.getElem_cons_succ, List.setIfInBounds_toArray, List.set_cons_zero, List.set_cons_succ]
            refine wpAnyH_done (by kernel_rfl) ?_ _
            clear k4
            go_wp2_with fail
            go_roundw
            case rel => exact ⟨k + 1, _, by omega, vint (by omega), Lib.hid HN8.out.2.1, Lib.hid HN8.out.2.2.1, Lib.hid HN8.out.2.2.2.1⟩
            case measure => simp [intOf]; omega
          · go_simp
            refine hK.out _ _ (by first | exact LK.out _ KK9 | exact LK.out _ KK8 | exact LK.out _ KK7 | exact LK.out _ KK6 | exact LK.out _ KK5 | exact LK.out _ (HKW.out.trans k4)) (fun hHeld => ?_)
            clear hHeld hK KK
            try simp only [Act.put, List.getElem_toArray, List.getElem_cons_zero, List.getElem_cons_succ, List.setIfInBounds_toArray, List.set_cons_zero, List.set_cons_succ]
            refine wpAnyH_ready (rs := [1, 9]) (by kernel_rfl) (by simp) (AllReadyH.cons rfl (fun KK hK => ?_) (AllReadyH.cons rfl (fun KK hK => ?_) AllReadyH.nil))
            · go_simp
              refine hK.out _ _ (by first | exact LK.out _ KK9 | exact LK.out _ KK8 | exact LK.out _ KK7 | exact LK.out _ KK6 | exact LK.out _ KK5 | exact LK.out _ (HKW.out.trans k4)) (fun hHeld => ?_)
              clear hHeld hK KK
              try simp only [Act.put, List.getElem_toArray, List.getElem_cons_zero, List.getElem_cons_succ, List.setIfInBounds_toArray, List.set_cons_zero, List.set_cons_succ]
              refine wpAnyH_ready (rs := [9]) (by kernel_rfl) (by simp) (AllReadyH.cons rfl (fun KK hK => ?_) AllReadyH.nil)
              (refine step_bldG rfl 22 21 rfl rfl rfl ?_; intro W7 hW7; have h67 : Kp w6 W7 := (by rw [hW7]; exact kp_alloc _ _); have k7 := k6.trans h67; have b7 : Blk W7 w6.heap.size 53 #[.string (st p), .string (st ((m p).getD []))] := (by rw [hW7, HPP.out, HZZ.out]; exact Blk.new _ _ _); have c7 := (HPO.out.keep k7).cell 0 rfl; have KK7 := HKW.out.trans k7; clear h67 hW7)
              refine hK.out _ _ (by first | exact LK.out _ KK9 | exact LK.out _ KK8 | exact LK.out _ KK7 | exact LK.out _ KK6 | exact LK.out _ KK5 | exact LK.out _ (HKW.out.trans k4)) (fun hHeld => ?_)
              clear hHeld hK KK
              try simp only [Act.put, List.getElem_toArray, List.getElem_cons_zero, List.getElem_cons_succ, List.setIfInBounds_toArray, List.set_cons_zero, List.set_cons_succ]
              refine wpAnyH_ready (rs := [10]) (by kernel_rfl) (by simp) (AllReadyH.cons rfl (fun KK hK => ?_) AllReadyH.nil)
              (refine step_flb (w := w) rfl (.tmp 14) (.tmp 22) rfl (.slice u1 u2 u3) rfl (HOW.out.keep k7) HLN.out (p, (m p).getD []) HFL.out w6.heap.size rfl b7 ?_; intro v8 W8 ho8 hg8 hb8; obtain ⟨⟨x1, x2, x3, rfl⟩, -⟩ := row_form ho8.owns; have HN8 := Lib.hid (NX.out _ _ _ k7 ho8 hg8 hb8); have c8 := HN8.out.1.cell 0 rfl; have f8 := HN8.out.1.free 0; have KK8 := ho8.kp; clear ho8 hg8 hb8)
              refine hK.out _ _ (by first | exact LK.out _ KK9 | exact LK.out _ KK8 | exact LK.out _ KK7 | exact LK.out _ KK6 | exact LK.out _ KK5 | exact LK.out _ (HKW.out.trans k4)) (fun hHeld => ?_)
              clear hHeld hK KK
              try simp only [Act.put, List.getElem_toArray, List.getElem_cons_zero, List.getElem_cons_succ, List.setIfInBounds_toArray, List.set_cons_zero, List.set_cons_succ]
              refine wpAnyH_ready (rs := [11]) (by kernel_rfl) (by simp) (AllReadyH.cons rfl (fun KK hK => ?_) AllReadyH.nil)
              go_simp
              refine hK.out _ _ (by first | exact LK.out _ KK9 | exact LK.out _ KK8 | exact LK.out _ KK7 | exact LK.out _ KK6 | exact LK.out _ KK5 | exact LK.out _ (HKW.out.trans k4)) (fun hHeld => ?_)
              clear hHeld hK KK
              try simp only [Act.put, List.getElem_toArray, List.getElem_cons_zero, List.getElem_cons_succ, List.setIfInBounds_toArray, List.set_cons_zero, List.set_cons_succ]
              refine wpAnyH_ready (rs := [12]) (by kernel_rfl) (by simp) (AllReadyH.cons rfl (fun KK hK => ?_) AllReadyH.nil)
              (go_simp; have KK9 := HN8.out.2.2.2.2)
              refine hK.out _ _ (by first | exact LK.out _ KK9 | exact LK.out _ KK8 | exact LK.out _ KK7 | exact LK.out _ KK6 | exact LK.out _ KK5 | exact LK.out _ (HKW.out.trans k4)) (fun hHeld => ?_)
              clear hHeld hK KK
              try simp only [Act.put, List.getElem_toArray, List.getElem_cons_zero, List.getElem_cons_succ, List.setIfInBounds_toArray, List.set_cons_zero, List.set_cons_succ]
              refine wpAnyH_done (by kernel_rfl) ?_ _
              clear k4
              go_wp2_with fail
              go_roundw
              case rel => exact ⟨k + 1, _, by omega, vint (by omega), Lib.hid HN8.out.2.1, Lib.hid HN8.out.2.2.1, Lib.hid HN8.out.2.2.2.1⟩
              case measure => simp [intOf]; omega
            · (refine step_bldG rfl 22 21 rfl rfl rfl ?_; intro W7 hW7; have h67 : Kp w6 W7 := (by rw [hW7]; exact kp_alloc _ _); have k7 := k6.trans h67; have b7 : Blk W7 w6.heap.size 53 #[.string (st p), .string (st ((m p).getD []))] := (by rw [hW7, HPP.out, HZZ.out]; exact Blk.new _ _ _); have c7 := (HPO.out.keep k7).cell 0 rfl; have KK7 := HKW.out.trans k7; clear h67 hW7)
              refine hK.out _ _ (by first | exact LK.out _ KK9 | exact LK.out _ KK8 | exact LK.out _ KK7 | exact LK.out _ KK6 | exact LK.out _ KK5 | exact LK.out _ (HKW.out.trans k4)) (fun hHeld => ?_)
              clear hHeld hK KK
              try simp only [Act.put, List.getElem_toArray, List.getElem_cons_zero, List.getElem_cons_succ, List.setIfInBounds_toArray, List.set_cons_zero, List.set_cons_succ]
              refine wpAnyH_ready (rs := [1]) (by kernel_rfl) (by simp) (AllReadyH.cons rfl (fun KK hK => ?_) AllReadyH.nil)
              go_simp
              refine hK.out _ _ (by first | exact LK.out _ KK9 | exact LK.out _ KK8 | exact LK.out _ KK7 | exact LK.out _ KK6 | exact LK.out _ KK5 | exact LK.out _ (HKW.out.trans k4)) (fun hHeld => ?_)
              clear hHeld hK KK
              try simp only [Act.put, List.getElem_toArray, List.getElem_cons_zero, List.getElem_cons_succ, List.setIfInBounds_toArray, List.set_cons_zero, List.set_cons_succ]
              refine wpAnyH_ready (rs := [10]) (by kernel_rfl) (by simp) (AllReadyH.cons rfl (fun KK hK => ?_) AllReadyH.nil)
              (refine step_flb (w := w) rfl (.tmp 14) (.tmp 22) rfl (.slice u1 u2 u3) rfl (HOW.out.keep k7) HLN.out (p, (m p).getD []) HFL.out w6.heap.size rfl b7 ?_; intro v8 W8 ho8 hg8 hb8; obtain ⟨⟨x1, x2, x3, rfl⟩, -⟩ := row_form ho8.owns; have HN8 := Lib.hid (NX.out _ _ _ k7 ho8 hg8 hb8); have c8 := HN8.out.1.cell 0 rfl; have f8 := HN8.out.1.free 0; have KK8 := ho8.kp; clear ho8 hg8 hb8)
              refine hK.out _ _ (by first | exact LK.out _ KK9 | exact LK.out _ KK8 | exact LK.out _ KK7 | exact LK.out _ KK6 | exact LK.out _ KK5 | exact LK.out _ (HKW.out.trans k4)) (fun hHeld => ?_)
              clear hHeld hK KK
              try simp only [Act.put, List.getElem_toArray, List.getElem_cons_zero, List.getElem_cons_succ, List.setIfInBounds_toArray, List.set_cons_zero, List.set_cons_succ]
              refine wpAnyH_ready (rs := [11]) (by kernel_rfl) (by simp) (AllReadyH.cons rfl (fun KK hK => ?_) AllReadyH.nil)
              go_simp
              refine hK.out _ _ (by first | exact LK.out _ KK9 | exact LK.out _ KK8 | exact LK.out _ KK7 | exact LK.out _ KK6 | exact LK.out _ KK5 | exact LK.out _ (HKW.out.trans k4)) (fun hHeld => ?_)
              clear hHeld hK KK
              try simp only [Act.put, List.getElem_toArray, List.getElem_cons_zero, List.getElem_cons_succ, List.setIfInBounds_toArray, List.set_cons_zero, List.set_cons_succ]
              refine wpAnyH_ready (rs := [12]) (by kernel_rfl) (by simp) (AllReadyH.cons rfl (fun KK hK => ?_) AllReadyH.nil)
              (go_simp; have KK9 := HN8.out.2.2.2.2)
              refine hK.out _ _ (by first | exact LK.out _ KK9 | exact LK.out _ KK8 | exact LK.out _ KK7 | exact LK.out _ KK6 | exact LK.out _ KK5 | exact LK.out _ (HKW.out.trans k4)) (fun hHeld => ?_)
              clear hHeld hK KK
              try simp only [Act.put, List.getElem_toArray, List.getElem_cons_zero, List.getElem_cons_succ, List.setIfInBounds_toArray, List.set_cons_zero, List.set_cons_succ]
              refine wpAnyH_done (by kernel_rfl) ?_ _
              clear k4
              go_wp2_with fail
              go_roundw
              case rel => exact ⟨k + 1, _, by omega, vint (by omega), Lib.hid HN8.out.2.1, Lib.hid HN8.out.2.2.1, Lib.hid HN8.out.2.2.2.1⟩
              case measure => simp [intOf]; omega
    · have HS : Hid (Sfs m (rF m ts)) := Lib.hid (rF_sfs HSK.out (fun p y hy => (HKK.out p y hy).1))
      have HF : Hid (ApS w wy po (.slice u1 u2 u3) (rF m ts)) := Lib.hid (by
        have h := HAP.out
        obtain rfl : k = N := by omega
        rwa [List.take_of_length_le (by have := HNL.out; omega)] at h)
      have cpo := HF.out.bq.cell 0 rfl
      have fpo := HF.out.bq.free 0
      go_wp2_with fail
      exact FINE.out _ wy _ _ _ rfl HF.out.bq rfl rfl HF.out.ow HF.out.ne HS.out
end By
end Go.Proofs.YtfobogcccbddbaaGreatDoor
