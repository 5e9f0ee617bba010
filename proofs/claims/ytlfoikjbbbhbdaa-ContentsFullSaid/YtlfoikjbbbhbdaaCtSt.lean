/- The table's store: its texts as a store of their own. Condition: at most a hundred thousand texts. -/
import Derived.Test.YtlfoikjbbbhbdaaCtCl
import Derived.Test.YtlfoikjbbbhbdaaCtRg
namespace Go.Proofs.Ytlfoikjbbbhbdaa
namespace By
open Go.RowKit WireN CtN
set_option linter.unusedVariables false
set_option linter.unusedSimpArgs false

theorem Blk.selfT {w : World} {g i : Nat} {t : TypeId} {cs : Array Value} {v : Value} (h : Blk w g t cs) (hv : cs[i]? = some v) : w.setCell ⟨g, i, none⟩ v = w := by
  have hc : cs.setIfInBounds i v = cs := by
    obtain ⟨hi, he⟩ := Array.getElem?_eq_some_iff.1 hv
    rw [← he]
    simp [Array.setIfInBounds, hi]
  rw [setCell_eq_setRow w g i cs t (0, 0) v h, hc]
  exact setRow_self w g cs t (0, 0) h
def stE (ts : List Tx) : Nat := if 4096 < ts.length then 2 else 0
def stL (ts : List Tx) : List Tx := if 4096 < ts.length then [] else ts
/-- What store leaves. -/
def StR (ts : List Tx) (w : World) (e : Ending) (w' : World) : Prop :=
  ∃ u, e = .returned (.tuple #[.agg #[u], .int .i64 (stE ts : Nat)]) ∧ Tw w' u (stL ts) ∧ (∀ b, u.ownBlock = some b → w.heap.size ≤ b) ∧ Kp w w'
set_option maxRecDepth 100000 in
set_option maxHeartbeats 8000000 in
theorem store_any {B w : World} {p b : Nat} {v : Value} {ts : List Tx} (h : Tb B w p v b ts) :
    Calls Try.prog 39 #[.pointer (some ⟨p, 0, none⟩)] w (StR ts w) := by
  obtain ⟨Q, hQ⟩ : ∃ Q, Q = StR ts w := ⟨_, rfl⟩
  rw [← hQ]
  obtain ⟨w1, hw1⟩ : ∃ W, W = w.alloc (.cells #[.slice none 0 0] 25) := ⟨_, rfl⟩
  have hk0 : Kp w w1 := by rw [hw1]; exact kp_alloc _ _
  have b1 : Blk w1 w.heap.size 25 #[.slice none 0 0] := by rw [hw1]; exact Blk.new _ _ _
  have FIN : Hid (∀ (W' W2 : World) (u0 u : Value) (E : Nat) (A : Act), W2 = W'.setCell ⟨w.heap.size, 0, none⟩ u → Blk W' w.heap.size 25 #[u0] → Kp w W' → A.defers = [] → A.tmps.getD 2 undef = .pointer (some ⟨w.heap.size, 0, none⟩) → A.tmps.getD 3 undef = .int .i64 (E : Nat) → Tw W' u (stL ts) → (∀ b, u.ownBlock = some b → w.heap.size + 1 ≤ b) → E = stE ts →
      bodyPost Try.prog Try.f39 Q .ret A W2) := Lib.hid (by
    intro W' W2 u0 u E A hw2 hb hk h0 h2 h3 hT hu hE
    subst hw2
    have b3 := hb.set 0 u
    have e0 := b3.cell 0 (v := u) rfl
    have h2' : A.tmps[2]?.getD undef = .pointer (some ⟨w.heap.size, 0, none⟩) := by simpa using h2
    have h3' : A.tmps[3]?.getD undef = .int .i64 (E : Nat) := by simpa using h3
    refine bodyPost_ret (v := .tuple #[.agg #[u], .int .i64 (E : Nat)]) (by simp [results, Try.results39, go_sem, h2', h3', e0]) h0 ?_
    rw [hQ]
    exact ⟨u, by rw [hE], hT.setc (fun b hb2 => by have := hu b hb2; omega), fun b hb2 => by have := hu b hb2; omega, Only.kp hk ((Only.refl w.heap.size W').set 0 _) (Nat.le_refl _)⟩)
  have hI0 : MgI w w1 w.heap.size (.slice none 0 0) (.slice none 0 0) [] [] := by
    rw [hw1]
    exact ⟨Blk.new _ _ _, (OwT.start w).keep (kp_alloc _ _), (OwJ.start w).keep (kp_alloc _ _), Nat.le_refl _, fun c hc => by simp [Value.ownBlock] at hc, fun c hc => by simp [Value.ownBlock] at hc, fun c hc e => by simp [Value.ownBlock] at e⟩
  have HW1 := Lib.hid hw1; have HK := Lib.hid hk0; have HB1 := Lib.hid b1; have HI0 := Lib.hid hI0
  have hs := h.ow.tw
  have HS := Lib.hid hs
  have c0 := (h.blk.keep hk0).cell 0 rfl
  have f1 := b1.free 0
  rw [hw1] at c0
  obtain ⟨ao, cap, rfl, hcap, -, -⟩ := hs.open3
  obtain ⟨m, hm⟩ : ∃ m, m = ts.length := ⟨_, rfl⟩
  rw [← hm] at HS c0 hcap
  have HM := Lib.hid hm
  have i1 : (m : Int) ≤ (cap : Int) := by omega
  clear h hQ hk0 b1 hI0 hs hcap
  clear hm
  by_cases hbig : 4096 < m
  · have F : Hid (stE ts = 2 ∧ stL ts = []) := Lib.hid ⟨if_pos (by rw [← HM.out]; exact hbig), if_pos (by rw [← HM.out]; exact hbig)⟩
    have j0 : (4096 : Int) < (m : Int) := by omega
    rw [hw1] at f1
    clear hbig hw1
    go_enter Try.func39, Try.ntmps39
    go_wp2_with fail
    (try rw [← HW1.out])
    exact FIN.out w1 _ _ _ 2 _ (HB1.out.selfT rfl).symm HB1.out HK.out rfl rfl rfl (by rw [F.out.2]; exact Tw.nil _) (fun b hb => by simp [Value.ownBlock] at hb) F.out.1.symm
  · have F : Hid (stE ts = 0 ∧ stL ts = ts) := Lib.hid ⟨if_neg (by rw [← HM.out]; exact hbig), if_neg (by rw [← HM.out]; exact hbig)⟩
    have j0 : (m : Int) ≤ 4096 := by omega
    clear hbig hw1
    go_enter Try.func39, Try.ntmps39
    go_wp2_with fail
    rw [← HW1.out]
    go_loopw [18] (fun iv wr => ∃ (k : Nat) (u : Value), iv = .int .i64 (k : Nat) ∧ k ≤ m ∧ MgI w wr w.heap.size u (.slice none 0 0) (ts.take k) []) (fun iv _ => m - (intOf iv).toNat)
    case atStart => exact ⟨0, _, rfl, Nat.zero_le _, HI0.out⟩
    case round =>
     obtain ⟨k, u, rfl, hk, hI⟩ := hrel
     rename World => wr
     have HI := Lib.hid hI
     obtain ⟨⟨u1, u2, u3, rfl⟩, -⟩ := row_frc hI.ow.owns
     by_cases hlt : k < m
     · have j1 : (k : Int) < (m : Int) := by omega
       obtain ⟨y, hy⟩ : ∃ y, ts[k]? = some y := ⟨_, List.getElem?_eq_getElem (by have := HM.out; omega)⟩
       have hyo : TxOk y := HS.out.ok y (List.mem_of_getElem? hy)
       obtain ⟨bb, bf, rfl, hcell⟩ := (HS.out.keep hI.kp).cell (by omega)
       have d0 := hcell k y hy
       obtain ⟨Y, hY⟩ : ∃ Y, Y = st y := ⟨_, rfl⟩
       have HCL : Hid (∀ w, Calls Try.prog 41 #[.string Y] w fun e w' => e = .returned (.string Y) ∧ Kp w w') := Lib.hid (fun w => by rw [hY]; exact Clone_t hyo w)
       rw [← hY] at d0
       have e0 := hI.blk.cell 0 rfl
       obtain ⟨W4, hW4⟩ : ∃ W, W = wr.drew := ⟨_, rfl⟩
       have HI4 : Hid (MgI w W4 w.heap.size (.slice u1 u2 u3) (.slice none 0 0) (ts.take k) []) := Lib.hid (hI.keep (by rw [hW4]; exact kp_drew wr))
       have c4 := HI4.out.blk.cell 0 rfl
       have HLN : Hid ((ts.take k).length ≤ 1000000) := Lib.hid (by rw [List.length_take]; omega)
       have HYO := Lib.hid hyo
       have HNS : Hid (ts.take (k + 1) = ts.take k ++ [y]) := Lib.hid (by rw [List.take_add_one, hy]; rfl)
       have HW4 := Lib.hid hW4; have HYY := Lib.hid hY
       clear hI hY hk hlt hW4 hcell hy hyo
       go_wp2_with fail
       refine wp_region_any (by kernel_rfl) ?_
       change wpAny _ _ _ _ _ _ _ (World.drew _)
       rw [← HW4.out]
       clear e0
       refine wpAny_take (i := 0) (v := (.pointer (some ⟨w.heap.size, 0, none⟩))) rfl (by kernel_rfl) (by kernel_rfl) (by kernel_rfl) (fun _ _ _ h => h) (Or.inl ⟨by rfl, fun wq => ?_⟩) ?_
       · go_simp
       try simp only [Act.put, List.setIfInBounds_toArray, List.set_cons_zero, List.set_cons_succ]
       refine wpAny_take (i := 2) (v := (.string Y)) rfl (by kernel_rfl) (by kernel_rfl) (by kernel_rfl) (fun _ _ _ h => h) (Or.inl ⟨by rfl, fun wq => ?_⟩) ?_
       · go_simp
       try simp only [Act.put, List.setIfInBounds_toArray, List.set_cons_zero, List.set_cons_succ]
       refine wpAny_ready (rs := [1, 3]) (by kernel_rfl) (by simp) (AllReady.cons rfl (fun KK hK => ?_) (AllReady.cons rfl (fun KK hK => ?_) AllReady.nil))
       · go_simp
         refine hK _ _ ?_
         clear hK KK
         try simp only [Act.put, List.setIfInBounds_toArray, List.set_cons_zero, List.set_cons_succ]
         refine wpAny_ready (rs := [3]) (by kernel_rfl) (by simp) (AllReady.cons rfl (fun KK hK => ?_) AllReady.nil)
         (go_simp; go_at_call 41; refine (HCL.out _).mono ?_; rintro e w5 ⟨rfl, hk5⟩; have hI5 := HI4.out.keep hk5; have c5 := hI5.blk.cell 0 rfl; clear hk5)
         refine hK _ _ ?_
         clear hK KK
         try simp only [Act.put, List.setIfInBounds_toArray, List.set_cons_zero, List.set_cons_succ]
         refine wpAny_ready (rs := [4]) (by kernel_rfl) (by simp) (AllReady.cons rfl (fun KK hK => ?_) AllReady.nil)
         (refine step_bldT rfl 26 25 rfl rfl rfl ?_; intro W6 hW6; have hI6 := hI5.keep (show Kp w5 W6 by rw [hW6]; exact kp_alloc _ _); have hb6 : Blk W6 w5.heap.size 9 #[.string (st y)] := by (rw [hW6, HYY.out]; exact Blk.new _ _ _)); (have c6 := hI6.blk.cell 0 rfl; clear hW6)
         refine hK _ _ ?_
         clear hK KK
         try simp only [Act.put, List.setIfInBounds_toArray, List.set_cons_zero, List.set_cons_succ]
         refine wpAny_ready (rs := [5]) (by kernel_rfl) (by simp) (AllReady.cons rfl (fun KK hK => ?_) AllReady.nil)
         (refine step_tx (w := w) rfl (.tmp 23) (.tmp 26) rfl (.slice u1 u2 u3) rfl hI6.ow HLN.out y HYO.out w5.heap.size rfl hb6 ?_; intro v7 w7 ho7 hg7 ha7; obtain ⟨⟨x1, x2, x3, rfl⟩, -⟩ := row_frc ho7.owns; obtain ⟨hb7, hI8⟩ := hI6.text ho7 hg7 ha7; have c7 := hb7.cell 0 rfl; have f7 := hb7.free 0; rw [← HNS.out] at hI8; have HX8 := Lib.hid hI8; clear ho7 hg7 ha7 hb7 hI8)
         refine hK _ _ ?_
         clear hK KK
         try simp only [Act.put, List.setIfInBounds_toArray, List.set_cons_zero, List.set_cons_succ]
         refine wpAny_ready (rs := [6]) (by kernel_rfl) (by simp) (AllReady.cons rfl (fun KK hK => ?_) AllReady.nil)
         go_simp
         refine hK _ _ ?_
         clear hK KK
         try simp only [Act.put, List.setIfInBounds_toArray, List.set_cons_zero, List.set_cons_succ]
         refine wpAny_ready (rs := [7]) (by kernel_rfl) (by simp) (AllReady.cons rfl (fun KK hK => ?_) AllReady.nil)
         go_simp
         refine hK _ _ ?_
         clear hK KK
         try simp only [Act.put, List.setIfInBounds_toArray, List.set_cons_zero, List.set_cons_succ]
         refine wpAny_done (by kernel_rfl) ?_ _
         go_wp2_with fail
         go_roundw
         case rel => exact ⟨k + 1, _, by go_num, by omega, HX8.out⟩
         case measure => simp [intOf]; omega
       · (go_simp; go_at_call 41; refine (HCL.out _).mono ?_; rintro e w5 ⟨rfl, hk5⟩; have hI5 := HI4.out.keep hk5; have c5 := hI5.blk.cell 0 rfl; clear hk5)
         refine hK _ _ ?_
         clear hK KK
         try simp only [Act.put, List.setIfInBounds_toArray, List.set_cons_zero, List.set_cons_succ]
         refine wpAny_ready (rs := [1, 4]) (by kernel_rfl) (by simp) (AllReady.cons rfl (fun KK hK => ?_) (AllReady.cons rfl (fun KK hK => ?_) AllReady.nil))
         · go_simp
           refine hK _ _ ?_
           clear hK KK
           try simp only [Act.put, List.setIfInBounds_toArray, List.set_cons_zero, List.set_cons_succ]
           refine wpAny_ready (rs := [4]) (by kernel_rfl) (by simp) (AllReady.cons rfl (fun KK hK => ?_) AllReady.nil)
           (refine step_bldT rfl 26 25 rfl rfl rfl ?_; intro W6 hW6; have hI6 := hI5.keep (show Kp w5 W6 by rw [hW6]; exact kp_alloc _ _); have hb6 : Blk W6 w5.heap.size 9 #[.string (st y)] := by (rw [hW6, HYY.out]; exact Blk.new _ _ _)); (have c6 := hI6.blk.cell 0 rfl; clear hW6)
           refine hK _ _ ?_
           clear hK KK
           try simp only [Act.put, List.setIfInBounds_toArray, List.set_cons_zero, List.set_cons_succ]
           refine wpAny_ready (rs := [5]) (by kernel_rfl) (by simp) (AllReady.cons rfl (fun KK hK => ?_) AllReady.nil)
           (refine step_tx (w := w) rfl (.tmp 23) (.tmp 26) rfl (.slice u1 u2 u3) rfl hI6.ow HLN.out y HYO.out w5.heap.size rfl hb6 ?_; intro v7 w7 ho7 hg7 ha7; obtain ⟨⟨x1, x2, x3, rfl⟩, -⟩ := row_frc ho7.owns; obtain ⟨hb7, hI8⟩ := hI6.text ho7 hg7 ha7; have c7 := hb7.cell 0 rfl; have f7 := hb7.free 0; rw [← HNS.out] at hI8; have HX8 := Lib.hid hI8; clear ho7 hg7 ha7 hb7 hI8)
           refine hK _ _ ?_
           clear hK KK
           try simp only [Act.put, List.setIfInBounds_toArray, List.set_cons_zero, List.set_cons_succ]
           refine wpAny_ready (rs := [6]) (by kernel_rfl) (by simp) (AllReady.cons rfl (fun KK hK => ?_) AllReady.nil)
           go_simp
           refine hK _ _ ?_
           clear hK KK
           try simp only [Act.put, List.setIfInBounds_toArray, List.set_cons_zero, List.set_cons_succ]
           refine wpAny_ready (rs := [7]) (by kernel_rfl) (by simp) (AllReady.cons rfl (fun KK hK => ?_) AllReady.nil)
           go_simp
           refine hK _ _ ?_
           clear hK KK
           try simp only [Act.put, List.setIfInBounds_toArray, List.set_cons_zero, List.set_cons_succ]
           refine wpAny_done (by kernel_rfl) ?_ _
           go_wp2_with fail
           go_roundw
           case rel => exact ⟨k + 1, _, by go_num, by omega, HX8.out⟩
           case measure => simp [intOf]; omega
         · (refine step_bldT rfl 26 25 rfl rfl rfl ?_; intro W6 hW6; have hI6 := hI5.keep (show Kp w5 W6 by rw [hW6]; exact kp_alloc _ _); have hb6 : Blk W6 w5.heap.size 9 #[.string (st y)] := by (rw [hW6, HYY.out]; exact Blk.new _ _ _)); (have c6 := hI6.blk.cell 0 rfl; clear hW6)
           refine hK _ _ ?_
           clear hK KK
           try simp only [Act.put, List.setIfInBounds_toArray, List.set_cons_zero, List.set_cons_succ]
           refine wpAny_ready (rs := [1]) (by kernel_rfl) (by simp) (AllReady.cons rfl (fun KK hK => ?_) AllReady.nil)
           go_simp
           refine hK _ _ ?_
           clear hK KK
           try simp only [Act.put, List.setIfInBounds_toArray, List.set_cons_zero, List.set_cons_succ]
           refine wpAny_ready (rs := [5]) (by kernel_rfl) (by simp) (AllReady.cons rfl (fun KK hK => ?_) AllReady.nil)
           (refine step_tx (w := w) rfl (.tmp 23) (.tmp 26) rfl (.slice u1 u2 u3) rfl hI6.ow HLN.out y HYO.out w5.heap.size rfl hb6 ?_; intro v7 w7 ho7 hg7 ha7; obtain ⟨⟨x1, x2, x3, rfl⟩, -⟩ := row_frc ho7.owns; obtain ⟨hb7, hI8⟩ := hI6.text ho7 hg7 ha7; have c7 := hb7.cell 0 rfl; have f7 := hb7.free 0; rw [← HNS.out] at hI8; have HX8 := Lib.hid hI8; clear ho7 hg7 ha7 hb7 hI8)
           refine hK _ _ ?_
           clear hK KK
           try simp only [Act.put, List.setIfInBounds_toArray, List.set_cons_zero, List.set_cons_succ]
           refine wpAny_ready (rs := [6]) (by kernel_rfl) (by simp) (AllReady.cons rfl (fun KK hK => ?_) AllReady.nil)
           go_simp
           refine hK _ _ ?_
           clear hK KK
           try simp only [Act.put, List.setIfInBounds_toArray, List.set_cons_zero, List.set_cons_succ]
           refine wpAny_ready (rs := [7]) (by kernel_rfl) (by simp) (AllReady.cons rfl (fun KK hK => ?_) AllReady.nil)
           go_simp
           refine hK _ _ ?_
           clear hK KK
           try simp only [Act.put, List.setIfInBounds_toArray, List.set_cons_zero, List.set_cons_succ]
           refine wpAny_done (by kernel_rfl) ?_ _
           go_wp2_with fail
           go_roundw
           case rel => exact ⟨k + 1, _, by go_num, by omega, HX8.out⟩
           case measure => simp [intOf]; omega
     · obtain rfl : k = m := by omega
       have htk : ts.take k = ts := List.take_of_length_le (by have := HM.out; omega)
       rw [htk] at HI
       have d0 := HI.out.blk.cell 0 rfl
       have g0 := HI.out.blk.free 0
       have HU : Hid (∀ c, (Value.slice u1 u2 u3).ownBlock = some c → w.heap.size + 1 ≤ c) := Lib.hid (fun c hc => by have h1 := HI.out.ow.newer c hc; have h2 := HI.out.d1 c hc; omega)
       clear htk hI hlt hk
       go_wp2_with fail
       exact FIN.out wr _ _ _ 0 _ rfl HI.out.blk HI.out.kp rfl rfl rfl (by rw [F.out.2]; exact HI.out.ow.tw) HU.out F.out.1.symm
end By
end Go.Proofs.Ytlfoikjbbbhbdaa
