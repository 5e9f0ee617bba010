/- The program's Frames: the frames of bytes, one after the other. Condition: the slice holds the bytes that are named. -/
import Derived.Test.YtlfoikjbbbhbdaaMWs
namespace Go.Proofs.Ytlfoikjbbbhbdaa
namespace By
open Go.RowKit Go.Shelf WireN
set_option linter.unusedVariables false
set_option linter.unusedSimpArgs false
attribute [local go_sem] Oper.semAt_some

set_option maxRecDepth 100000 in
set_option maxHeartbeats 1000000 in
theorem readings_any (ao : Option Addr) (len cap : Nat) (w : World) : Calls Try.prog 55 #[.slice ao len cap] w fun e w' =>
    e = .returned (.func (.func 60) #[] #[.pointer (some ⟨w.heap.size, 0, none⟩)]) ∧ w' = w.alloc (.cells #[.slice ao len cap] 48) := by
  go_enter Try.func55, Try.ntmps55
  go_wp2_with fail
  go_ret
  exact ⟨rfl, rfl⟩

theorem infoF : (Try.prog.info? 80).map (fun i => (i.zero, i.size, i.bytes)) = some (some (.agg #[.int .i64 0, .slice none 0 0]), 2, 32) := by kernel_rfl
set_option maxRecDepth 100000 in
set_option maxHeartbeats 4000000 in
theorem Frames_any {v : Value} {xs : List Nat} {w : World} (hs : Sl w v xs) (hsm : xs.length ≤ 1000000) :
    Calls Try.prog 47 #[v] w (FrmR xs w) := by
  obtain ⟨ao, cap, rfl, -, -, -⟩ := hs.open3
  obtain ⟨len, hlen⟩ : ∃ len, len = xs.length := ⟨_, rfl⟩
  rw [← hlen] at hs ⊢
  have HS := Lib.hid hs; have HL := Lib.hid hlen; have HSM := Lib.hid hsm
  have FIN : Hid (∀ (W : World) (v0 vo : Value) (lo : Obj) (q E : Nat), FI w W v0 lo xs q vo E → Stops xs q E → FrmR xs w (.returned (.tuple #[vo, .int .i64 (q : Nat), .int .i64 (E : Nat)])) (W.putObj (w.heap.size + 4) (.deferred none))) := Lib.hid (by
    intro W v0 vo lo q E h hst
    obtain ⟨h1, -, -, -, fs, vps, h2⟩ := h.shut
    exact ⟨⟨fs, vps, q, E, vo, hst, rfl, h2⟩, h1⟩)
  obtain ⟨R, hR⟩ : ∃ R, R = FrmR xs w := ⟨_, rfl⟩
  rw [← hR] at FIN ⊢
  clear hR
  clear hs hlen hsm
  refine (callsIn_wide (n := 5)).1 ?_
  refine callsIn_of_wp_marks Try.func47 rfl trivial ?_ rfl
  simp only [Try.ntmps47, List.size_toArray, List.length_cons, List.length_nil, Nat.reduceAdd, Nat.reduceSub, Array.replicate_succ, Array.replicate_zero, List.push_toArray, List.append_toArray, List.nil_append, List.cons_append]
  gi_wp2_with fail
  refine ⟨trivial, ?_⟩
  refine (callsIn_wide.2 (readings_any _ _ _ _)).mono ?_
  rintro e w' ⟨rfl, rfl⟩
  gi_wp2_with fail
  refine range_begin rfl (fun _ => trivial) (by omega) rfl (enters_of Try.func60 (by kernel_rfl) rfl) (fun fn asg bdy tm hasg hbdy htm => ?_)
  refine callsIn_of_wp Try.func60 rfl trivial ?_ rfl
  simp only [Try.ntmps60, List.size_toArray, List.length_cons, List.length_nil, Nat.reduceAdd, Nat.reduceSub, Array.replicate_succ, Array.replicate_zero, List.push_toArray, List.append_toArray, List.nil_append, List.cons_append]
  have HASG := Lib.hid hasg; have HBDY := Lib.hid hbdy; have HTM := Lib.hid htm
  clear hasg hbdy htm
  have hFI0 : FI w (((((((w.alloc (.cells #[.slice none 0 0] 81)).alloc (.cells #[.int .i64 0] 3)).alloc (.cells #[.int .i64 0] 32)).alloc (.cells #[.slice ao len cap] 48)).alloc (.deferred (some []))).alloc (.loop (recd fn tm #[8] asg bdy (w.heap.size + 4) .ready none)))) (.slice ao len cap) (.loop (recd fn tm #[8] asg bdy (w.heap.size + 4) .ready none)) xs 0 (.slice none 0 0) 0 := by
    have k6 : Kp w (((((((w.alloc (.cells #[.slice none 0 0] 81)).alloc (.cells #[.int .i64 0] 3)).alloc (.cells #[.int .i64 0] 32)).alloc (.cells #[.slice ao len cap] 48)).alloc (.deferred (some []))).alloc (.loop (recd fn tm #[8] asg bdy (w.heap.size + 4) .ready none)))) :=
      Kp.alloc (Kp.alloc (Kp.alloc (Kp.alloc (Kp.alloc (kp_alloc _ _) _) _) _) _) _
    refine ⟨k6, heap_at _ (Kp.alloc (Kp.alloc (Kp.alloc (Kp.alloc (kp_alloc _ _) _) _) _) _) rfl, heap_at _ (Kp.alloc (Kp.alloc (Kp.alloc (kp_alloc _ _) _) _) _) (by simp), heap_at _ (Kp.alloc (Kp.alloc (kp_alloc _ _) _) _) (by simp), heap_at _ (Kp.alloc (kp_alloc _ _) _) (by simp),
      heap_at _ (kp_alloc _ _) (by simp), heap_at _ (Kp.refl _) (by simp), [], [], rfl, Nat.zero_le _, rfl, Nat.zero_le _, fun j x v hx => by simp at hx, World.ownsRow_nil _ _ _ _⟩
  have HFI0 := Lib.hid hFI0
  clear hFI0
  gi_wp2_with fail
  gi_loopw [3] (fun p wr => ∃ (q : Nat) (vo : Value), p = .int .i64 (q : Nat) ∧ q ≤ len ∧ FI w wr (.slice ao len cap) (.loop (recd fn tm #[8] asg bdy (w.heap.size + 4) .ready none)) xs q vo 0) (fun p _ => len - (intOf p).toNat)
  case atStart => exact ⟨0, _, rfl, Nat.zero_le _, HFI0.out⟩
  case round =>
    obtain ⟨q, vo, rfl, hql, hfi⟩ := hrel
    rename World => wx
    have HFI := Lib.hid hfi
    have cb := hfi.bx.cell 0 rfl
    clear hfi
    by_cases hq : q < len
    · gi_wp2_with fail
      refine ⟨trivial, ?_⟩
      refine (callsIn_wide.2 (Next_in (HS.out.keep HFI.out.kp) q (by have := HL.out; omega))).mono ?_
      rintro e W2 ⟨⟨vp, rfl, hs2, hn2⟩, hk2⟩
      obtain ⟨ao2, c2, rfl, -, -, -⟩ := hs2.open3
      obtain ⟨⟨K, PL, NX, E⟩, hnx⟩ : ∃ r, r = nx xs (q : Nat) := ⟨_, rfl⟩
      rw [← hnx] at hs2 ⊢
      simp only at hs2 ⊢
      obtain ⟨L, hL⟩ : ∃ L, L = PL.length := ⟨_, rfl⟩
      rw [← hnx] at hn2
      simp only at hn2
      rw [← hL] at hs2 ⊢
      have HNX := Lib.hid hnx.symm; have HS2 := Lib.hid hs2; have HK2 := Lib.hid hk2
      have HFI2 := Lib.hid (HFI.out.keep (Kp.trans hk2 (kp_alloc W2 (.cells #[.int .i64 K, .slice ao2 L c2] 80))))
      have HVB : Hid (∀ k, vo.ownBlock = some k → k < W2.heap.size) := Lib.hid (fun k e => by
        obtain ⟨fs, vps, hfr⟩ := HFI.out.row
        have := ((row_form hfr.own).2 k e).2
        have := hk2.size
        omega)
      have HOFF : Hid (∀ g, vo.ownBlock = some g → Off g (.slice ao2 L c2) PL) := Lib.hid (fun g e hx a l c hv hb => by
        obtain ⟨fs, vps, hfr⟩ := HFI.out.row
        have h1 := ((row_form hfr.own).2 g e).2
        rw [← hL] at hn2
        have := hn2 a l c hv
        omega)
      have hqx : q < xs.length := by have := HL.out; omega
      have HQX := Lib.hid hqx
      clear hnx hs2 hk2 hL cb hn2 hqx
      have hY : YieldAt Fence.wide 3 Try.prog (w.heap.size + 5) #[.agg #[.int .i64 K, .slice ao2 L c2, .int .i64 NX, .int .i64 E]] (W2.alloc (.cells #[.int .i64 K, .slice ao2 L c2] 80)) (fun e W' => (E = 0 ∧ e = .returned (.bool true) ∧ ∃ vo', FI w W' (.slice ao len cap) (.loop (recd fn tm #[8] asg bdy (w.heap.size + 4) .ready none)) xs NX vo' 0) ∨
          (E ≠ 0 ∧ e = .returned (.bool false) ∧ FI w W' (.slice ao len cap) (.loop (recd fn tm #[8] asg bdy (w.heap.size + 4) .done (some .ret))) xs q vo E)) := by
        refine round_at' HASG.out HBDY.out HTM.out (fun _ => trivial) HFI2.out.lp rfl ?_
        have hkr := kp_alloc (W2.alloc (.cells #[.int .i64 K, .slice ao2 L c2] 80)) (.cells #[.int .i64 K, .slice ao2 L c2, .int .i64 NX, .int .i64 E] 95)
        have hRb := Blk.new (W2.alloc (.cells #[.int .i64 K, .slice ao2 L c2] 80)) 95 #[.int .i64 K, .slice ao2 L c2, .int .i64 NX, .int .i64 E]
        have hFI3 := HFI2.out.keep hkr
        have hS3 := HS2.out.keep (Kp.trans (kp_alloc _ _) hkr)
        have HFI3 := Lib.hid hFI3; have HRB := Lib.hid hRb; have HS3 := Lib.hid hS3
        clear hkr hRb hFI3 hS3
        gi_wp2_with fail
        refine ⟨HFI3.out.lp, ?_⟩
        have hg4 := grownBy_putObj' ((W2.alloc (.cells #[.int .i64 K, .slice ao2 L c2] 80)).alloc (.cells #[.int .i64 K, .slice ao2 L c2, .int .i64 NX, .int .i64 E] 95)) (w.heap.size + 5) (.loop (recd fn tm #[8] asg bdy (w.heap.size + 4) .busy none))
        have hFI4 : FI w _ (.slice ao len cap) (.loop (recd fn tm #[8] asg bdy (w.heap.size + 4) .busy none)) xs q vo 0 := HFI3.out.put
        have hz2 : (W2.alloc (.cells #[.int .i64 K, .slice ao2 L c2] 80)).heap.size = W2.heap.size + 1 := by simp
        have hlt2 : w.heap.size + 5 < W2.heap.size + 1 := by rw [← hz2]; exact (Array.getElem?_eq_some_iff.1 HFI2.out.lp).1
        have hRb4 := HRB.out.by hg4 (by rw [hz2]; intro e; injection e; omega)
        have hS4 := HS3.out.loop HFI3.out.lp hg4
        rw [hz2] at hRb4
        obtain ⟨W4, hW4⟩ : ∃ W4, W4 = ((W2.alloc (.cells #[.int .i64 K, .slice ao2 L c2] 80)).alloc (.cells #[.int .i64 K, .slice ao2 L c2, .int .i64 NX, .int .i64 E] 95)).putObj (w.heap.size + 5) (.loop (recd fn tm #[8] asg bdy (w.heap.size + 4) .busy none)) := ⟨_, rfl⟩
        rw [← hW4] at hFI4 hRb4 hS4 ⊢
        have HFI4 := Lib.hid hFI4; have HRB4 := Lib.hid hRb4; have HS4 := Lib.hid hS4
        have cv := hFI4.co.cell 0 rfl; have ca := hFI4.ca.cell 0 rfl; have ce := hFI4.ce.cell 0 rfl
        have fv := hFI4.co.free 0; have fa := hFI4.ca.free 0; have fe := hFI4.ce.free 0
        have cr0 := hRb4.cell 0 rfl; have cr1 := hRb4.cell 1 rfl; have cr2 := hRb4.cell 2 rfl; have cr3 := hRb4.cell 3 rfl
        clear hW4 hg4 hFI4 hz2 hRb4 hS4
        by_cases hE : E = 0
        · subst hE
          gi_wp2_with fail
          have hmix : Try.prog.follows .mixedOrders = true := by kernel_rfl
          obtain ⟨fs, vps, hfr⟩ := HFI4.out.row
          obtain ⟨W5, hW5⟩ : ∃ W5, W5 = (W4.alloc (.cells #[.int .i64 K, .slice ao2 L c2] 80)).drew := ⟨_, rfl⟩
          have k5 : Kp W4 W5 := hW5 ▸ Kp.trans (kp_alloc _ _) (kp_drew _)
          have hwb := row_form hfr.own
          have hfr5 := hfr.keep k5
          have HROW := Lib.hid hfr5.own
          have HNEWS : Hid (∀ (j : Nat) (u : Value), ([.int .i64 K, .slice ao2 L c2] : List Value)[j]? = some u → W5.cell? ((⟨W4.heap.size, 0, none⟩ : Addr).add j) = some u) := Lib.hid (by
            intro j u hu
            have hb := (Blk.new W4 80 #[.int .i64 K, .slice ao2 L c2]).keep (kp_drew _)
            rw [← hW5] at hb
            rw [Addr.add_lit]
            exact hb.cell (0 + j) (by simpa using hu))
          have HONE : Hid (∀ u ∈ ([.int .i64 K, .slice ao2 L c2] : List Value), u.oneCell' = true) := Lib.hid (by
            intro u hu
            simp at hu
            rcases hu with rfl | rfl <;> rfl)
          have HB1 : Hid (fs.length + 1 ≤ maxLen) := Lib.hid (by have := hfr.few; have := hfr.le; have := HSM.out; unfold maxLen; omega)
          have HB2 : Hid ((fs.length + 1) * 32 ≤ 140737488355328) := Lib.hid (by have := hfr.few; have := hfr.le; have := HSM.out; show _ ≤ _; omega)
          have HB3 : Hid (w.heap.size + 6 ≤ W5.heap.size) := Lib.hid (by have := (Array.getElem?_eq_some_iff.1 HFI4.out.lp).1; have := k5.size; show _ ≤ _; omega)
          have HLAW : Hid (∀ (v1 : Value) (w1 : World), w1.ownsRow (w.heap.size + 6) 80 2 v1 (fs.length + 1) (fcells fs vps ++ [.int .i64 K, .slice ao2 L c2]) → W5.grownBy w1 vo.ownBlock → (v1.ownBlock = vo.ownBlock ∨ v1.ownBlock = some W5.heap.size) →
              (∃ a1 l1 c1, v1 = .slice a1 l1 c1) ∧ Hid (FI w ((w1.setCell ⟨w.heap.size, 0, none⟩ v1).setCell ⟨w.heap.size + 1, 0, none⟩ (.int .i64 (NX : Nat))) (.slice ao len cap) (.loop (recd fn tm #[8] asg bdy (w.heap.size + 4) .busy none)) xs NX v1 0) ∧
              w1.cell? ⟨w.heap.size, 0, none⟩ = some vo ∧ w1.frozen? ⟨w.heap.size, 0, none⟩ = false ∧
              (w1.setCell ⟨w.heap.size, 0, none⟩ v1).cell? ⟨w.heap.size + 1, 0, none⟩ = some (.int .i64 (q : Nat)) ∧ (w1.setCell ⟨w.heap.size, 0, none⟩ v1).frozen? ⟨w.heap.size + 1, 0, none⟩ = false ∧
              w1.cell? ⟨W2.heap.size + 1, 2, none⟩ = some (.int .i64 NX) ∧ (w1.setCell ⟨w.heap.size, 0, none⟩ v1).cell? ⟨W2.heap.size + 1, 2, none⟩ = some (.int .i64 NX)) := Lib.hid (by
            intro v1 w1 h1 h2 h3
            have hne : ∀ n, n < w.heap.size + 6 → some n ≠ vo.ownBlock := fun n hn e => by have := (hwb.2 n e.symm).1; omega
            have hnr : some (W2.heap.size + 1) ≠ vo.ownBlock := fun e => by have := HVB.out _ e.symm; omega
            have hFR := hfr5.add HQX.out HNX.out (HS4.out.keep k5) HOFF.out h2 h1 h3
            have hv := (row_form h1).1
            have g0 := grownBy_setCell' w1 w.heap.size v1
            have r1 := (HRB4.out.keep k5).by h2 hnr
            refine ⟨hv, Lib.hid ((HFI4.out.keep k5).out h2 (fun k hk => (hwb.2 k hk).1) hwb.1 hv ⟨_, _, hFR⟩), ((HFI4.out.co.keep k5).by h2 (hne _ (by omega))).cell 0 rfl, ((HFI4.out.co.keep k5).by h2 (hne _ (by omega))).free 0,
              (((HFI4.out.ca.keep k5).by h2 (hne _ (by omega))).by g0 (by simp)).cell 0 rfl, (((HFI4.out.ca.keep k5).by h2 (hne _ (by omega))).by g0 (by simp)).free 0, r1.cell 2 rfl, (r1.by g0 (by simp; omega)).cell 2 rfl⟩)
          have cc0 : W4.cell? ⟨W2.heap.size + 1, 0, none⟩ = some (.int .i64 K) := cr0
          have cc1 : W4.cell? ⟨W2.heap.size + 1, 1, none⟩ = some (.slice ao2 L c2) := cr1
          have cc2 : W4.cell? ⟨W2.heap.size + 1, 2, none⟩ = some (.int .i64 NX) := cr2
          have cv5 : W5.cell? ⟨w.heap.size, 0, none⟩ = some vo := (HFI4.out.co.keep k5).cell 0 rfl
          have cn5 : W5.cell? ⟨W2.heap.size + 1, 2, none⟩ = some (.int .i64 NX) := (HRB4.out.keep k5).cell 2 rfl
          clear hfr hwb hfr5 k5
          subst hW5
          refine wpIn_region_any hmix (wpAnyIn_inRound (by simp) _ _ _ _ ?_)
          refine wpAnyIn_take (i := 1) (v := .pointer (some ⟨W2.heap.size + 1, 0, none⟩)) rfl rfl (by kernel_rfl) (by kernel_rfl) (by kernel_rfl) (fun _ _ _ h => h) ⟨Or.inl ⟨by rfl, fun w => by go_simp⟩, fun _ => rfl⟩ ?_
          refine wpAnyIn_take (i := 5) (v := .pointer (some ⟨W2.heap.size + 1, 2, none⟩)) rfl rfl (by kernel_rfl) (by kernel_rfl) (by kernel_rfl) (fun _ _ _ h => h) ⟨Or.inl ⟨by rfl, fun w => by go_simp⟩, fun _ => rfl⟩ ?_
          change wpAnyIn _ _ _ _ _ _ _ _ _ (World.drew _)
          repeat' (first
            | (refine wpAnyIn_ready (rs := [0]) (by decide +kernel) (by simp) (AllReadyIn.cons rfl (fun KK hK => ?_) AllReadyIn.nil) <;> ((first | (refine stepIn_row rfl (.tmp 16) (.tmp 19) 81 rfl (w.heap.size + 6) 80 (.agg #[.int .i64 0, .slice none 0 0]) 2 32 Try.underlying81 infoF rfl (by decide) vo fs.length (fcells fs vps) rfl HROW.out ⟨W4.heap.size, 0, none⟩ 1 1 [.int .i64 K, .slice ao2 L c2] rfl rfl HNEWS.out HONE.out HB1.out HB2.out HB3.out (fun v1 w1 h1 h2 h3 => ?_); obtain ⟨⟨a1, l1, c1, rfl⟩, HFIN, b0, f0, b1, f1, r1, r2⟩ := HLAW.out v1 w1 h1 h2 h3; clear h1 h2 h3; try go_simp) | go_simp); refine hK _ _ ?_; clear hK KK))
            | (refine wpAnyIn_ready (rs := [2]) (by decide +kernel) (by simp) (AllReadyIn.cons rfl (fun KK hK => ?_) AllReadyIn.nil) <;> ((first | (refine stepIn_row rfl (.tmp 16) (.tmp 19) 81 rfl (w.heap.size + 6) 80 (.agg #[.int .i64 0, .slice none 0 0]) 2 32 Try.underlying81 infoF rfl (by decide) vo fs.length (fcells fs vps) rfl HROW.out ⟨W4.heap.size, 0, none⟩ 1 1 [.int .i64 K, .slice ao2 L c2] rfl rfl HNEWS.out HONE.out HB1.out HB2.out HB3.out (fun v1 w1 h1 h2 h3 => ?_); obtain ⟨⟨a1, l1, c1, rfl⟩, HFIN, b0, f0, b1, f1, r1, r2⟩ := HLAW.out v1 w1 h1 h2 h3; clear h1 h2 h3; try go_simp) | go_simp); refine hK _ _ ?_; clear hK KK))
            | (refine wpAnyIn_ready (rs := [3]) (by decide +kernel) (by simp) (AllReadyIn.cons rfl (fun KK hK => ?_) AllReadyIn.nil) <;> ((first | (refine stepIn_row rfl (.tmp 16) (.tmp 19) 81 rfl (w.heap.size + 6) 80 (.agg #[.int .i64 0, .slice none 0 0]) 2 32 Try.underlying81 infoF rfl (by decide) vo fs.length (fcells fs vps) rfl HROW.out ⟨W4.heap.size, 0, none⟩ 1 1 [.int .i64 K, .slice ao2 L c2] rfl rfl HNEWS.out HONE.out HB1.out HB2.out HB3.out (fun v1 w1 h1 h2 h3 => ?_); obtain ⟨⟨a1, l1, c1, rfl⟩, HFIN, b0, f0, b1, f1, r1, r2⟩ := HLAW.out v1 w1 h1 h2 h3; clear h1 h2 h3; try go_simp) | go_simp); refine hK _ _ ?_; clear hK KK))
            | (refine wpAnyIn_ready (rs := [4]) (by decide +kernel) (by simp) (AllReadyIn.cons rfl (fun KK hK => ?_) AllReadyIn.nil) <;> ((first | (refine stepIn_row rfl (.tmp 16) (.tmp 19) 81 rfl (w.heap.size + 6) 80 (.agg #[.int .i64 0, .slice none 0 0]) 2 32 Try.underlying81 infoF rfl (by decide) vo fs.length (fcells fs vps) rfl HROW.out ⟨W4.heap.size, 0, none⟩ 1 1 [.int .i64 K, .slice ao2 L c2] rfl rfl HNEWS.out HONE.out HB1.out HB2.out HB3.out (fun v1 w1 h1 h2 h3 => ?_); obtain ⟨⟨a1, l1, c1, rfl⟩, HFIN, b0, f0, b1, f1, r1, r2⟩ := HLAW.out v1 w1 h1 h2 h3; clear h1 h2 h3; try go_simp) | go_simp); refine hK _ _ ?_; clear hK KK))
            | (refine wpAnyIn_ready (rs := [6]) (by decide +kernel) (by simp) (AllReadyIn.cons rfl (fun KK hK => ?_) AllReadyIn.nil) <;> ((first | (refine stepIn_row rfl (.tmp 16) (.tmp 19) 81 rfl (w.heap.size + 6) 80 (.agg #[.int .i64 0, .slice none 0 0]) 2 32 Try.underlying81 infoF rfl (by decide) vo fs.length (fcells fs vps) rfl HROW.out ⟨W4.heap.size, 0, none⟩ 1 1 [.int .i64 K, .slice ao2 L c2] rfl rfl HNEWS.out HONE.out HB1.out HB2.out HB3.out (fun v1 w1 h1 h2 h3 => ?_); obtain ⟨⟨a1, l1, c1, rfl⟩, HFIN, b0, f0, b1, f1, r1, r2⟩ := HLAW.out v1 w1 h1 h2 h3; clear h1 h2 h3; try go_simp) | go_simp); refine hK _ _ ?_; clear hK KK))
            | (refine wpAnyIn_ready (rs := [7]) (by decide +kernel) (by simp) (AllReadyIn.cons rfl (fun KK hK => ?_) AllReadyIn.nil) <;> ((first | (refine stepIn_row rfl (.tmp 16) (.tmp 19) 81 rfl (w.heap.size + 6) 80 (.agg #[.int .i64 0, .slice none 0 0]) 2 32 Try.underlying81 infoF rfl (by decide) vo fs.length (fcells fs vps) rfl HROW.out ⟨W4.heap.size, 0, none⟩ 1 1 [.int .i64 K, .slice ao2 L c2] rfl rfl HNEWS.out HONE.out HB1.out HB2.out HB3.out (fun v1 w1 h1 h2 h3 => ?_); obtain ⟨⟨a1, l1, c1, rfl⟩, HFIN, b0, f0, b1, f1, r1, r2⟩ := HLAW.out v1 w1 h1 h2 h3; clear h1 h2 h3; try go_simp) | go_simp); refine hK _ _ ?_; clear hK KK))
            | (refine wpAnyIn_ready (rs := [8]) (by decide +kernel) (by simp) (AllReadyIn.cons rfl (fun KK hK => ?_) AllReadyIn.nil) <;> ((first | (refine stepIn_row rfl (.tmp 16) (.tmp 19) 81 rfl (w.heap.size + 6) 80 (.agg #[.int .i64 0, .slice none 0 0]) 2 32 Try.underlying81 infoF rfl (by decide) vo fs.length (fcells fs vps) rfl HROW.out ⟨W4.heap.size, 0, none⟩ 1 1 [.int .i64 K, .slice ao2 L c2] rfl rfl HNEWS.out HONE.out HB1.out HB2.out HB3.out (fun v1 w1 h1 h2 h3 => ?_); obtain ⟨⟨a1, l1, c1, rfl⟩, HFIN, b0, f0, b1, f1, r1, r2⟩ := HLAW.out v1 w1 h1 h2 h3; clear h1 h2 h3; try go_simp) | go_simp); refine hK _ _ ?_; clear hK KK))
            | (refine wpAnyIn_ready (rs := [0, 2]) (by decide +kernel) (by simp) (AllReadyIn.cons rfl (fun KK hK => ?_) (AllReadyIn.cons rfl (fun KK hK => ?_) AllReadyIn.nil)) <;> ((first | (refine stepIn_row rfl (.tmp 16) (.tmp 19) 81 rfl (w.heap.size + 6) 80 (.agg #[.int .i64 0, .slice none 0 0]) 2 32 Try.underlying81 infoF rfl (by decide) vo fs.length (fcells fs vps) rfl HROW.out ⟨W4.heap.size, 0, none⟩ 1 1 [.int .i64 K, .slice ao2 L c2] rfl rfl HNEWS.out HONE.out HB1.out HB2.out HB3.out (fun v1 w1 h1 h2 h3 => ?_); obtain ⟨⟨a1, l1, c1, rfl⟩, HFIN, b0, f0, b1, f1, r1, r2⟩ := HLAW.out v1 w1 h1 h2 h3; clear h1 h2 h3; try go_simp) | go_simp); refine hK _ _ ?_; clear hK KK))
            | (refine wpAnyIn_ready (rs := [0, 3]) (by decide +kernel) (by simp) (AllReadyIn.cons rfl (fun KK hK => ?_) (AllReadyIn.cons rfl (fun KK hK => ?_) AllReadyIn.nil)) <;> ((first | (refine stepIn_row rfl (.tmp 16) (.tmp 19) 81 rfl (w.heap.size + 6) 80 (.agg #[.int .i64 0, .slice none 0 0]) 2 32 Try.underlying81 infoF rfl (by decide) vo fs.length (fcells fs vps) rfl HROW.out ⟨W4.heap.size, 0, none⟩ 1 1 [.int .i64 K, .slice ao2 L c2] rfl rfl HNEWS.out HONE.out HB1.out HB2.out HB3.out (fun v1 w1 h1 h2 h3 => ?_); obtain ⟨⟨a1, l1, c1, rfl⟩, HFIN, b0, f0, b1, f1, r1, r2⟩ := HLAW.out v1 w1 h1 h2 h3; clear h1 h2 h3; try go_simp) | go_simp); refine hK _ _ ?_; clear hK KK))
            | (refine wpAnyIn_ready (rs := [0, 6]) (by decide +kernel) (by simp) (AllReadyIn.cons rfl (fun KK hK => ?_) (AllReadyIn.cons rfl (fun KK hK => ?_) AllReadyIn.nil)) <;> ((first | (refine stepIn_row rfl (.tmp 16) (.tmp 19) 81 rfl (w.heap.size + 6) 80 (.agg #[.int .i64 0, .slice none 0 0]) 2 32 Try.underlying81 infoF rfl (by decide) vo fs.length (fcells fs vps) rfl HROW.out ⟨W4.heap.size, 0, none⟩ 1 1 [.int .i64 K, .slice ao2 L c2] rfl rfl HNEWS.out HONE.out HB1.out HB2.out HB3.out (fun v1 w1 h1 h2 h3 => ?_); obtain ⟨⟨a1, l1, c1, rfl⟩, HFIN, b0, f0, b1, f1, r1, r2⟩ := HLAW.out v1 w1 h1 h2 h3; clear h1 h2 h3; try go_simp) | go_simp); refine hK _ _ ?_; clear hK KK))
            | (refine wpAnyIn_ready (rs := [2, 6]) (by decide +kernel) (by simp) (AllReadyIn.cons rfl (fun KK hK => ?_) (AllReadyIn.cons rfl (fun KK hK => ?_) AllReadyIn.nil)) <;> ((first | (refine stepIn_row rfl (.tmp 16) (.tmp 19) 81 rfl (w.heap.size + 6) 80 (.agg #[.int .i64 0, .slice none 0 0]) 2 32 Try.underlying81 infoF rfl (by decide) vo fs.length (fcells fs vps) rfl HROW.out ⟨W4.heap.size, 0, none⟩ 1 1 [.int .i64 K, .slice ao2 L c2] rfl rfl HNEWS.out HONE.out HB1.out HB2.out HB3.out (fun v1 w1 h1 h2 h3 => ?_); obtain ⟨⟨a1, l1, c1, rfl⟩, HFIN, b0, f0, b1, f1, r1, r2⟩ := HLAW.out v1 w1 h1 h2 h3; clear h1 h2 h3; try go_simp) | go_simp); refine hK _ _ ?_; clear hK KK))
            | (refine wpAnyIn_ready (rs := [3, 6]) (by decide +kernel) (by simp) (AllReadyIn.cons rfl (fun KK hK => ?_) (AllReadyIn.cons rfl (fun KK hK => ?_) AllReadyIn.nil)) <;> ((first | (refine stepIn_row rfl (.tmp 16) (.tmp 19) 81 rfl (w.heap.size + 6) 80 (.agg #[.int .i64 0, .slice none 0 0]) 2 32 Try.underlying81 infoF rfl (by decide) vo fs.length (fcells fs vps) rfl HROW.out ⟨W4.heap.size, 0, none⟩ 1 1 [.int .i64 K, .slice ao2 L c2] rfl rfl HNEWS.out HONE.out HB1.out HB2.out HB3.out (fun v1 w1 h1 h2 h3 => ?_); obtain ⟨⟨a1, l1, c1, rfl⟩, HFIN, b0, f0, b1, f1, r1, r2⟩ := HLAW.out v1 w1 h1 h2 h3; clear h1 h2 h3; try go_simp) | go_simp); refine hK _ _ ?_; clear hK KK))
            | (refine wpAnyIn_ready (rs := [4, 6]) (by decide +kernel) (by simp) (AllReadyIn.cons rfl (fun KK hK => ?_) (AllReadyIn.cons rfl (fun KK hK => ?_) AllReadyIn.nil)) <;> ((first | (refine stepIn_row rfl (.tmp 16) (.tmp 19) 81 rfl (w.heap.size + 6) 80 (.agg #[.int .i64 0, .slice none 0 0]) 2 32 Try.underlying81 infoF rfl (by decide) vo fs.length (fcells fs vps) rfl HROW.out ⟨W4.heap.size, 0, none⟩ 1 1 [.int .i64 K, .slice ao2 L c2] rfl rfl HNEWS.out HONE.out HB1.out HB2.out HB3.out (fun v1 w1 h1 h2 h3 => ?_); obtain ⟨⟨a1, l1, c1, rfl⟩, HFIN, b0, f0, b1, f1, r1, r2⟩ := HLAW.out v1 w1 h1 h2 h3; clear h1 h2 h3; try go_simp) | go_simp); refine hK _ _ ?_; clear hK KK))
            | (refine wpAnyIn_ready (rs := [6, 7]) (by decide +kernel) (by simp) (AllReadyIn.cons rfl (fun KK hK => ?_) (AllReadyIn.cons rfl (fun KK hK => ?_) AllReadyIn.nil)) <;> ((first | (refine stepIn_row rfl (.tmp 16) (.tmp 19) 81 rfl (w.heap.size + 6) 80 (.agg #[.int .i64 0, .slice none 0 0]) 2 32 Try.underlying81 infoF rfl (by decide) vo fs.length (fcells fs vps) rfl HROW.out ⟨W4.heap.size, 0, none⟩ 1 1 [.int .i64 K, .slice ao2 L c2] rfl rfl HNEWS.out HONE.out HB1.out HB2.out HB3.out (fun v1 w1 h1 h2 h3 => ?_); obtain ⟨⟨a1, l1, c1, rfl⟩, HFIN, b0, f0, b1, f1, r1, r2⟩ := HLAW.out v1 w1 h1 h2 h3; clear h1 h2 h3; try go_simp) | go_simp); refine hK _ _ ?_; clear hK KK))
            | (refine wpAnyIn_ready (rs := [0, 2, 6]) (by decide +kernel) (by simp) (AllReadyIn.cons rfl (fun KK hK => ?_) (AllReadyIn.cons rfl (fun KK hK => ?_) (AllReadyIn.cons rfl (fun KK hK => ?_) AllReadyIn.nil))) <;> ((first | (refine stepIn_row rfl (.tmp 16) (.tmp 19) 81 rfl (w.heap.size + 6) 80 (.agg #[.int .i64 0, .slice none 0 0]) 2 32 Try.underlying81 infoF rfl (by decide) vo fs.length (fcells fs vps) rfl HROW.out ⟨W4.heap.size, 0, none⟩ 1 1 [.int .i64 K, .slice ao2 L c2] rfl rfl HNEWS.out HONE.out HB1.out HB2.out HB3.out (fun v1 w1 h1 h2 h3 => ?_); obtain ⟨⟨a1, l1, c1, rfl⟩, HFIN, b0, f0, b1, f1, r1, r2⟩ := HLAW.out v1 w1 h1 h2 h3; clear h1 h2 h3; try go_simp) | go_simp); refine hK _ _ ?_; clear hK KK))
            | (refine wpAnyIn_ready (rs := [0, 3, 6]) (by decide +kernel) (by simp) (AllReadyIn.cons rfl (fun KK hK => ?_) (AllReadyIn.cons rfl (fun KK hK => ?_) (AllReadyIn.cons rfl (fun KK hK => ?_) AllReadyIn.nil))) <;> ((first | (refine stepIn_row rfl (.tmp 16) (.tmp 19) 81 rfl (w.heap.size + 6) 80 (.agg #[.int .i64 0, .slice none 0 0]) 2 32 Try.underlying81 infoF rfl (by decide) vo fs.length (fcells fs vps) rfl HROW.out ⟨W4.heap.size, 0, none⟩ 1 1 [.int .i64 K, .slice ao2 L c2] rfl rfl HNEWS.out HONE.out HB1.out HB2.out HB3.out (fun v1 w1 h1 h2 h3 => ?_); obtain ⟨⟨a1, l1, c1, rfl⟩, HFIN, b0, f0, b1, f1, r1, r2⟩ := HLAW.out v1 w1 h1 h2 h3; clear h1 h2 h3; try go_simp) | go_simp); refine hK _ _ ?_; clear hK KK)))
          all_goals refine wpAnyIn_done (by decide +kernel) ?_ _
          all_goals first | exact ⟨_, _, run_endRound none HFIN.out.lp, Or.inl ⟨rfl, rfl, _, HFIN.out.put⟩⟩ | (gi_wp2_with fail; exact ⟨_, _, run_endRound none HFIN.out.lp, Or.inl ⟨rfl, rfl, _, HFIN.out.put⟩⟩) | (gi_wp2_with fail; trace_state; refine ⟨_, _, run_endRound none HFIN.out.lp, ?_⟩; trace_state; exact Or.inl ⟨rfl, rfl, _, HFIN.out.put⟩)
        · have hne : (((E : Nat) : Int) == 0) = false := beq_eq_false_iff_ne.2 (by omega)
          have hne2 : (((E : Nat) : Int) != 0) = true := by simp [bne, hne]
          gi_wp2_with fail
          have hmix : Try.prog.follows .mixedOrders = true := by kernel_rfl
          have hvo : ∃ ao l c, vo = .slice ao l c := by
            obtain ⟨fs, vps, hfr⟩ := HFI4.out.row
            exact (row_form hfr.own).1
          obtain ⟨a0, l0, c0, rfl⟩ := hvo
          have HD := HFI4.out.keep (kp_drew W4)
          have HFE := Lib.hid (HD.err ⟨_, _, _, rfl⟩ E)
          have g0 := grownBy_setCell' W4.drew w.heap.size (.slice a0 l0 c0)
          have g1 := grownBy_setCell' (W4.drew.setCell ⟨w.heap.size, 0, none⟩ (.slice a0 l0 c0)) (w.heap.size + 1) (.int .i64 (q : Nat))
          have RD := HRB4.out.keep (kp_drew W4)
          have x0 := HD.co.cell 0 rfl; have y0 := HD.co.free 0; have x1 := HD.ca.cell 0 rfl; have x3 := RD.cell 3 rfl
          have x1' := (HD.ca.by g0 (by simp)).cell 0 rfl; have y1' := (HD.ca.by g0 (by simp)).free 0; have x3' := (RD.by g0 (by simp; omega)).cell 3 rfl
          have x2 := ((HD.ce.by g0 (by simp)).by g1 (by simp)).cell 0 rfl
          have y2 := ((HD.ce.by g0 (by simp)).by g1 (by simp)).free 0; have x3'' := ((RD.by g0 (by simp; omega)).by g1 (by simp; omega)).cell 3 rfl
          clear HD RD g0 g1
          change ((W4.drew.setCell ⟨w.heap.size, 0, none⟩ (.slice a0 l0 c0)).setCell ⟨w.heap.size + 1, 0, none⟩ (.int .i64 (q : Nat))).cell? ⟨w.heap.size + 1 + 1, 0, none⟩ = _ at x2
          change ((W4.drew.setCell ⟨w.heap.size, 0, none⟩ (.slice a0 l0 c0)).setCell ⟨w.heap.size + 1, 0, none⟩ (.int .i64 (q : Nat))).frozen? ⟨w.heap.size + 1 + 1, 0, none⟩ = _ at y2
          refine wpIn_region_any hmix (wpAnyIn_inRound (by simp) _ _ _ _ ?_)
          refine wpAnyIn_take (i := 2) (v := .pointer (some ⟨W2.heap.size + 1, 3, none⟩)) rfl rfl (by kernel_rfl) (by kernel_rfl) (by kernel_rfl) (fun _ _ _ h => h) ⟨Or.inl ⟨by rfl, fun w => by go_simp⟩, fun _ => rfl⟩ ?_
          change wpAnyIn _ _ _ _ _ _ _ _ _ (World.drew _)
          repeat' (first
            | (refine wpAnyIn_ready (rs := [0]) (by decide +kernel) (by simp) (AllReadyIn.cons rfl (fun KK hK => ?_) AllReadyIn.nil) <;> (go_simp; refine hK _ _ ?_; clear hK KK))
            | (refine wpAnyIn_ready (rs := [1]) (by decide +kernel) (by simp) (AllReadyIn.cons rfl (fun KK hK => ?_) AllReadyIn.nil) <;> (go_simp; refine hK _ _ ?_; clear hK KK))
            | (refine wpAnyIn_ready (rs := [3]) (by decide +kernel) (by simp) (AllReadyIn.cons rfl (fun KK hK => ?_) AllReadyIn.nil) <;> (go_simp; refine hK _ _ ?_; clear hK KK))
            | (refine wpAnyIn_ready (rs := [4]) (by decide +kernel) (by simp) (AllReadyIn.cons rfl (fun KK hK => ?_) AllReadyIn.nil) <;> (go_simp; refine hK _ _ ?_; clear hK KK))
            | (refine wpAnyIn_ready (rs := [5]) (by decide +kernel) (by simp) (AllReadyIn.cons rfl (fun KK hK => ?_) AllReadyIn.nil) <;> (go_simp; refine hK _ _ ?_; clear hK KK))
            | (refine wpAnyIn_ready (rs := [6]) (by decide +kernel) (by simp) (AllReadyIn.cons rfl (fun KK hK => ?_) AllReadyIn.nil) <;> (go_simp; refine hK _ _ ?_; clear hK KK))
            | (refine wpAnyIn_ready (rs := [0, 1]) (by decide +kernel) (by simp) (AllReadyIn.cons rfl (fun KK hK => ?_) (AllReadyIn.cons rfl (fun KK hK => ?_) AllReadyIn.nil)) <;> (go_simp; refine hK _ _ ?_; clear hK KK))
            | (refine wpAnyIn_ready (rs := [0, 3]) (by decide +kernel) (by simp) (AllReadyIn.cons rfl (fun KK hK => ?_) (AllReadyIn.cons rfl (fun KK hK => ?_) AllReadyIn.nil)) <;> (go_simp; refine hK _ _ ?_; clear hK KK))
            | (refine wpAnyIn_ready (rs := [1, 3]) (by decide +kernel) (by simp) (AllReadyIn.cons rfl (fun KK hK => ?_) (AllReadyIn.cons rfl (fun KK hK => ?_) AllReadyIn.nil)) <;> (go_simp; refine hK _ _ ?_; clear hK KK))
            | (refine wpAnyIn_ready (rs := [1, 4]) (by decide +kernel) (by simp) (AllReadyIn.cons rfl (fun KK hK => ?_) (AllReadyIn.cons rfl (fun KK hK => ?_) AllReadyIn.nil)) <;> (go_simp; refine hK _ _ ?_; clear hK KK))
            | (refine wpAnyIn_ready (rs := [3, 4]) (by decide +kernel) (by simp) (AllReadyIn.cons rfl (fun KK hK => ?_) (AllReadyIn.cons rfl (fun KK hK => ?_) AllReadyIn.nil)) <;> (go_simp; refine hK _ _ ?_; clear hK KK))
            | (refine wpAnyIn_ready (rs := [3, 5]) (by decide +kernel) (by simp) (AllReadyIn.cons rfl (fun KK hK => ?_) (AllReadyIn.cons rfl (fun KK hK => ?_) AllReadyIn.nil)) <;> (go_simp; refine hK _ _ ?_; clear hK KK))
            | (refine wpAnyIn_ready (rs := [0, 1, 3]) (by decide +kernel) (by simp) (AllReadyIn.cons rfl (fun KK hK => ?_) (AllReadyIn.cons rfl (fun KK hK => ?_) (AllReadyIn.cons rfl (fun KK hK => ?_) AllReadyIn.nil))) <;> (go_simp; refine hK _ _ ?_; clear hK KK))
            | (refine wpAnyIn_ready (rs := [1, 3, 4]) (by decide +kernel) (by simp) (AllReadyIn.cons rfl (fun KK hK => ?_) (AllReadyIn.cons rfl (fun KK hK => ?_) (AllReadyIn.cons rfl (fun KK hK => ?_) AllReadyIn.nil))) <;> (go_simp; refine hK _ _ ?_; clear hK KK)))
          all_goals refine wpAnyIn_done (by decide +kernel) ?_ _
          all_goals first | exact ⟨_, _, run_endRound (some .ret) HFE.out.lp, Or.inr ⟨hE, rfl, HFE.out.put⟩⟩ | (gi_wp2_with fail; exact ⟨_, _, run_endRound (some .ret) HFE.out.lp, Or.inr ⟨hE, rfl, HFE.out.put⟩⟩) | (gi_wp2_with fail; trace_state; refine ⟨_, _, run_endRound (some .ret) HFE.out.lp, ?_⟩; trace_state; exact Or.inr ⟨hE, rfl, HFE.out.put⟩)
      obtain ⟨fn', tmps', assign', body', hy, hR⟩ := hY
      gi_wp2_with fail
      refine hR.mono ?_
      clear hR hy
      rintro e W' (⟨hE, rfl, vo', hfi'⟩ | ⟨hE, rfl, hfi'⟩)
      · subst hE
        have HF := Lib.hid hfi'
        clear hfi'
        gi_wp2_with fail
        have hm := nx_more (l := xs) (q := q) (by rw [HNX.out])
        rw [HNX.out] at hm
        simp only at hm
        have := HL.out
        exact ⟨⟨NX, vo', rfl, by omega, HF.out⟩, by simp [intOf]; omega⟩
      · have hne : (((E : Nat) : Int) == 0) = false := beq_eq_false_iff_ne.2 (by omega)
        have hne2 : (((E : Nat) : Int) != 0) = true := by simp [bne, hne]
        have HF := Lib.hid hfi'
        clear hfi'
        gi_wp2_with fail
        refine ⟨rfl, .tuple #[], by simp [results, Try.func60, go_sem], ?_⟩
        refine ⟨some .ret, _, run_endLoop HF.out.lp (by simp [recd]), ?_⟩
        have HG := HF.out.put (lo' := .loop { recd fn tm #[8] asg bdy (w.heap.size + 4) .done (some .ret) with state := .exhausted })
        obtain ⟨W7, hW7⟩ : ∃ W7, W7 = W'.putObj (w.heap.size + 5) (.loop { recd fn tm #[8] asg bdy (w.heap.size + 4) .done (some .ret) with state := .exhausted }) := ⟨_, rfl⟩
        change Code.wpIn _ _ _ Code.ret _ _ (W'.putObj (w.heap.size + 5) (.loop { recd fn tm #[8] asg bdy (w.heap.size + 4) .done (some .ret) with state := .exhausted }))
        rw [← hW7] at HG ⊢
        have HG := Lib.hid HG
        clear hW7
        gi_wp2_with fail
        obtain ⟨-, s0, s1, s2, -⟩ := HG.out.shut
        refine ⟨by simp, .inl ⟨_, _, rfl, run_takeDeferred HG.out.df, ?_⟩⟩
        refine ⟨_, ?_, FIN.out _ _ _ _ _ _ HG.out (.inr ⟨HQX.out, hE, by rw [HNX.out]⟩)⟩
        have t0 := s0.cell 0 rfl; have t1 := s1.cell 0 rfl; have t2 := s2.cell 0 rfl
        simp [results, Try.func47, go_sem, t0, t1, t2]
    · gi_wp2_with fail
      refine ⟨rfl, .tuple #[], by simp [results, Try.func60, go_sem], ?_⟩
      refine ⟨none, _, run_endLoop HFI.out.lp (by simp [recd]), ?_⟩
      have HG := HFI.out.put (lo' := .loop { recd fn tm #[8] asg bdy (w.heap.size + 4) .ready none with state := .exhausted })
      obtain ⟨W7, hW7⟩ : ∃ W7, W7 = wx.putObj (w.heap.size + 5) (.loop { recd fn tm #[8] asg bdy (w.heap.size + 4) .ready none with state := .exhausted }) := ⟨_, rfl⟩
      change Exit.inBlock _ _ Exit.normal _ (wx.putObj (w.heap.size + 5) (.loop { recd fn tm #[8] asg bdy (w.heap.size + 4) .ready none with state := .exhausted }))
      rw [← hW7] at HG ⊢
      have HG := Lib.hid HG
      clear hW7
      have hvo : ∃ ao l c, vo = .slice ao l c := by
        obtain ⟨fs, vps, hfr⟩ := HG.out.row
        exact (row_form hfr.own).1
      obtain ⟨a0, l0, c0, rfl⟩ := hvo
      have HD := HG.out.keep (kp_drew W7)
      have HFE := Lib.hid (HD.err ⟨_, _, _, rfl⟩ 0)
      have g0 := grownBy_setCell' W7.drew w.heap.size (.slice a0 l0 c0)
      have g1 := grownBy_setCell' (W7.drew.setCell ⟨w.heap.size, 0, none⟩ (.slice a0 l0 c0)) (w.heap.size + 1) (.int .i64 (q : Nat))
      have x0 := HD.co.cell 0 rfl; have y0 := HD.co.free 0; have x1 := HD.ca.cell 0 rfl
      have x1' := (HD.ca.by g0 (by simp)).cell 0 rfl; have y1' := (HD.ca.by g0 (by simp)).free 0
      have x2 := ((HD.ce.by g0 (by simp)).by g1 (by simp)).cell 0 rfl
      have y2 := ((HD.ce.by g0 (by simp)).by g1 (by simp)).free 0
      have cv := HG.out.co.cell 0 rfl; have ca := HG.out.ca.cell 0 rfl; have ce := HG.out.ce.cell 0 rfl
      have fv := HG.out.co.free 0; have fa := HG.out.ca.free 0; have fe := HG.out.ce.free 0
      change W7.cell? ⟨w.heap.size + 1 + 1, 0, none⟩ = _ at ce
      change W7.frozen? ⟨w.heap.size + 1 + 1, 0, none⟩ = _ at fe
      clear HD g0 g1
      change ((W7.drew.setCell ⟨w.heap.size, 0, none⟩ (.slice a0 l0 c0)).setCell ⟨w.heap.size + 1, 0, none⟩ (.int .i64 (q : Nat))).cell? ⟨w.heap.size + 1 + 1, 0, none⟩ = _ at x2
      change ((W7.drew.setCell ⟨w.heap.size, 0, none⟩ (.slice a0 l0 c0)).setCell ⟨w.heap.size + 1, 0, none⟩ (.int .i64 (q : Nat))).frozen? ⟨w.heap.size + 1 + 1, 0, none⟩ = _ at y2
      have hmix : Try.prog.follows .mixedOrders = true := by kernel_rfl
      gi_wp2_with fail
      refine wpIn_region_any hmix ?_
      change wpAnyIn _ _ _ _ _ _ _ _ _ (World.drew _)
      repeat' (first
        | (refine wpAnyIn_ready (rs := [0]) (by decide +kernel) (by simp) (AllReadyIn.cons rfl (fun KK hK => ?_) AllReadyIn.nil) <;> (go_simp; refine hK _ _ ?_; clear hK KK))
        | (refine wpAnyIn_ready (rs := [1]) (by decide +kernel) (by simp) (AllReadyIn.cons rfl (fun KK hK => ?_) AllReadyIn.nil) <;> (go_simp; refine hK _ _ ?_; clear hK KK))
        | (refine wpAnyIn_ready (rs := [2]) (by decide +kernel) (by simp) (AllReadyIn.cons rfl (fun KK hK => ?_) AllReadyIn.nil) <;> (go_simp; refine hK _ _ ?_; clear hK KK))
        | (refine wpAnyIn_ready (rs := [3]) (by decide +kernel) (by simp) (AllReadyIn.cons rfl (fun KK hK => ?_) AllReadyIn.nil) <;> (go_simp; refine hK _ _ ?_; clear hK KK))
        | (refine wpAnyIn_ready (rs := [4]) (by decide +kernel) (by simp) (AllReadyIn.cons rfl (fun KK hK => ?_) AllReadyIn.nil) <;> (go_simp; refine hK _ _ ?_; clear hK KK))
        | (refine wpAnyIn_ready (rs := [0, 1]) (by decide +kernel) (by simp) (AllReadyIn.cons rfl (fun KK hK => ?_) (AllReadyIn.cons rfl (fun KK hK => ?_) AllReadyIn.nil)) <;> (go_simp; refine hK _ _ ?_; clear hK KK))
        | (refine wpAnyIn_ready (rs := [1, 2]) (by decide +kernel) (by simp) (AllReadyIn.cons rfl (fun KK hK => ?_) (AllReadyIn.cons rfl (fun KK hK => ?_) AllReadyIn.nil)) <;> (go_simp; refine hK _ _ ?_; clear hK KK)))
      all_goals refine wpAnyIn_done (by decide +kernel) ?_ _
      all_goals gi_wp2_with fail
      all_goals
        obtain ⟨-, s0, s1, s2, -⟩ := HFE.out.shut
        refine ⟨by simp, .inl ⟨_, _, rfl, run_takeDeferred HFE.out.df, ?_⟩⟩
        refine ⟨_, ?_, FIN.out _ _ _ _ _ _ HFE.out (.inl ⟨by have := HL.out; omega, rfl⟩)⟩
        obtain ⟨W9, hW9⟩ : ∃ W9, W9 = ((((W7.drew.setCell ⟨w.heap.size, 0, none⟩ (.slice a0 l0 c0)).setCell ⟨w.heap.size + 1, 0, none⟩ (.int .i64 (q : Nat))).setCell ⟨w.heap.size + 1 + 1, 0, none⟩ (.int .i64 ((0 : Nat) : Int))).putObj (w.heap.size + 4) (.deferred none)) := ⟨_, rfl⟩
        change Sem.run _ _ ((((W7.drew.setCell ⟨w.heap.size, 0, none⟩ (.slice a0 l0 c0)).setCell ⟨w.heap.size + 1, 0, none⟩ (.int .i64 (q : Nat))).setCell ⟨w.heap.size + 1 + 1, 0, none⟩ (.int .i64 ((0 : Nat) : Int))).putObj (w.heap.size + 4) (.deferred none)) = Result.ok _ ((((W7.drew.setCell ⟨w.heap.size, 0, none⟩ (.slice a0 l0 c0)).setCell ⟨w.heap.size + 1, 0, none⟩ (.int .i64 (q : Nat))).setCell ⟨w.heap.size + 1 + 1, 0, none⟩ (.int .i64 ((0 : Nat) : Int))).putObj (w.heap.size + 4) (.deferred none))
        rw [← hW9] at s0 s1 s2 ⊢
        clear hW9
        have t0 := s0.cell 0 rfl; have t1 := s1.cell 0 rfl; have t2 := s2.cell 0 rfl
        simp [results, Try.func47, go_sem, t0, t1, t2]
end By
end Go.Proofs.Ytlfoikjbbbhbdaa
