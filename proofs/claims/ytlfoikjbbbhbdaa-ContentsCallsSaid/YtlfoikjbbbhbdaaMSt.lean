/- A text appended, and one text as a slice, as steps of a drawn region. No condition. -/
import Derived.Test.YtlfoikjbbbhbdaaMCe
import Derived.Maps.AppendAt
import Derived.Deep.RegionHeld3
import Derived.StillTailTactics
import Derived.Test.YtlfoikjbbbhbdaaMTb
namespace Go.Proofs.Ytlfoikjbbbhbdaa
namespace By
open Go.RowKit WireN CtN
set_option linter.unusedVariables false
set_option linter.unusedSimpArgs false

/-- append of a text to a row of one's own, as a step of a region. -/
theorem step_tx {w wx : World} {ops : Array Oper} {o : Oper} {a : Act} {K : Act → World → Prop} {Q : Exit → Act → World → Prop} {E : Prop} (hgd : o.guard = none) (s x : Operand)
    (ho : o.op = .call { callee := .builtin .append, args := #[s, x], argTypes := #[23, 23] })
    (v : Value) {ts : List Tx} (hs : a.eval s = v) (hown : OwT w wx v ts) (hsm : ts.length ≤ 1000000) (k : Tx) (hf : TxOk k) (g : Nat) (hx : a.eval x = .slice (some ⟨g, 0, none⟩) 1 1)
    (hc : Blk wx g 9 #[.string (st k)])
    (h : ∀ v' w', OwT w w' v' (ts ++ [k]) → wx.grownBy w' v.ownBlock → (v'.ownBlock = v.ownBlock ∨ v'.ownBlock = some wx.heap.size) → K (a.put o.dst v') w') :
    if Region.wanted o (yielded ops a.tmps) = true then Oper.wp Try.prog o a wx K Q else E := by
  have hw : Region.wanted o (yielded ops a.tmps) = true := by simp [Region.wanted, hgd]
  rw [if_pos hw]
  obtain ⟨i, hi, hz, hsize, hby⟩ := info_parts infoTx
  obtain ⟨v', w', hr, h2, h3, h4, h5⟩ := run_append_own_at (P := Try.prog) wx w.heap.size 23 o.type 9 i _ 1 16 Try.underlying23 hi hz hsize hby rfl (by omega) v ts.length (tcel ts) hown.owns ⟨g, 0, none⟩ 1 1 [.string (st k)] rfl (fun j u hu => by
    rw [Addr.add_lit]
    refine hc.cell (0 + j) ?_
    rw [Nat.zero_add]
    simpa using hu) (fun u hu => by
    simp at hu
    subst hu
    rfl) (by unfold maxLen; omega) (by omega) hown.kp.size
  unfold Oper.wp
  simp [execOp, ho, resolve, invoke, builtin, hs, hx, hr, Result.andThen]
  refine h v' w' ⟨by rw [List.length_append, tcel_snoc]; exact h2, fun y hy => ?_, Below.grown hown.kp h3 hown.kp.size (fun k hk => ((row_frc hown.owns).2 k hk).1)⟩ h3 h5
  rcases List.mem_append.1 hy with hy | hy
  · exact hown.ok y hy
  · obtain rfl : y = k := by simpa using hy
    exact hf
theorem step_bldT {wx : World} {ops : Array Oper} {o : Oper} {a : Act} {K : Act → World → Prop} {Q : Exit → Act → World → Prop} {E : Prop} (hgd : o.guard = none) (k j : Tmp)
    (ho : o.op = .buildSlice 23 1 #[(0, .tmp j)]) (hdst : o.dst = some k) {u : ByteArray} (hx : a.eval (.tmp j) = .string u)
    (h : ∀ w', w' = wx.alloc (.cells #[.string u] 9) → K (a.put (some k) (.slice (some ⟨wx.heap.size, 0, none⟩) 1 1)) w') :
    if Region.wanted o (yielded ops a.tmps) = true then Oper.wp Try.prog o a wx K Q else E := by
  have hw : Region.wanted o (yielded ops a.tmps) = true := by simp [Region.wanted, hgd]
  rw [if_pos hw]
  have hP := h _ rfl
  unfold Oper.wp
  have hx' : a.tmps[j]?.getD undef = .string u := by simpa [Act.eval] using hx
  simp [execOp, ho, resolve, hdst, hx', go_sem, Result.andThen]
  exact hP
end By
end Go.Proofs.Ytlfoikjbbbhbdaa

/- The table's store: its texts as a store of their own. Condition: at most a hundred thousand texts. -/
namespace Go.Proofs.Ytlfoikjbbbhbdaa
namespace By
open Go.RowKit WireN CtN
set_option linter.unusedVariables false
set_option linter.unusedSimpArgs false

theorem Blk.selfT {w : World} {g i : Nat} {t : TypeId} {cs : Array Value} {v : Value} (h : Blk w g t cs) (hv : cs[i]? = some v) : w.setCell ⟨g, i, none⟩ v = w := by
  have hc : cs.setIfInBounds i v = cs := by
    obtain ⟨hi, he⟩ := Array.getElem?_eq_some_iff.1 hv
    rw [← he]
    simp [Array.setIfInBounds, hi]
  rw [setCell_eq_setRow w g i cs t (0, 0) v h, hc]
  exact setRow_self w g cs t (0, 0) h
def stE (ts : List Tx) : Nat := if 4096 < ts.length then 2 else 0
def stL (ts : List Tx) : List Tx := if 4096 < ts.length then [] else ts
/-- What store leaves. -/
def StR (ts : List Tx) (w : World) (e : Ending) (w' : World) : Prop :=
  ∃ u, e = .returned (.tuple #[.agg #[u], .int .i64 (stE ts : Nat)]) ∧ Tw w' u (stL ts) ∧ (∀ b, u.ownBlock = some b → w.heap.size ≤ b) ∧ Kp w w'
set_option maxRecDepth 100000 in
set_option maxHeartbeats 8000000 in
theorem store_any {B w : World} {p b : Nat} {v : Value} {ts : List Tx} (h : Tb B w p v b ts) :
    Calls Try.prog 39 #[.pointer (some ⟨p, 0, none⟩)] w (StR ts w) := by
  obtain ⟨Q, hQ⟩ : ∃ Q, Q = StR ts w := ⟨_, rfl⟩
  rw [← hQ]
  obtain ⟨w1, hw1⟩ : ∃ W, W = w.alloc (.cells #[.slice none 0 0] 25) := ⟨_, rfl⟩
  have hk0 : Kp w w1 := by rw [hw1]; exact kp_alloc _ _
  have b1 : Blk w1 w.heap.size 25 #[.slice none 0 0] := by rw [hw1]; exact Blk.new _ _ _
  have FIN : Hid (∀ (W' W2 : World) (u0 u : Value) (E : Nat) (A : Act), W2 = W'.setCell ⟨w.heap.size, 0, none⟩ u → Blk W' w.heap.size 25 #[u0] → Kp w W' → A.defers = [] → A.tmps.getD 2 undef = .pointer (some ⟨w.heap.size, 0, none⟩) → A.tmps.getD 3 undef = .int .i64 (E : Nat) → Tw W' u (stL ts) → (∀ b, u.ownBlock = some b → w.heap.size + 1 ≤ b) → E = stE ts →
      bodyPost Try.prog Try.f39 Q .ret A W2) := Lib.hid (by
    intro W' W2 u0 u E A hw2 hb hk h0 h2 h3 hT hu hE
    subst hw2
    have b3 := hb.set 0 u
    have e0 := b3.cell 0 (v := u) rfl
    have h2' : A.tmps[2]?.getD undef = .pointer (some ⟨w.heap.size, 0, none⟩) := by simpa using h2
    have h3' : A.tmps[3]?.getD undef = .int .i64 (E : Nat) := by simpa using h3
    refine bodyPost_ret (v := .tuple #[.agg #[u], .int .i64 (E : Nat)]) (by simp [results, Try.results39, go_sem, h2', h3', e0]) h0 ?_
    rw [hQ]
    exact ⟨u, by rw [hE], hT.setc (fun b hb2 => by have := hu b hb2; omega), fun b hb2 => by have := hu b hb2; omega, Only.kp hk ((Only.refl w.heap.size W').set 0 _) (Nat.le_refl _)⟩)
  have hI0 : MgI w w1 w.heap.size (.slice none 0 0) (.slice none 0 0) [] [] := by
    rw [hw1]
    exact ⟨Blk.new _ _ _, (OwT.start w).keep (kp_alloc _ _), (OwJ.start w).keep (kp_alloc _ _), Nat.le_refl _, fun c hc => by simp [Value.ownBlock] at hc, fun c hc => by simp [Value.ownBlock] at hc, fun c hc e => by simp [Value.ownBlock] at e⟩
  have HW1 := Lib.hid hw1; have HK := Lib.hid hk0; have HB1 := Lib.hid b1; have HI0 := Lib.hid hI0
  have hs := h.ow.tw
  have HS := Lib.hid hs
  have c0 := (h.blk.keep hk0).cell 0 rfl
  have f1 := b1.free 0
  rw [hw1] at c0
  obtain ⟨ao, cap, rfl, hcap, -, -⟩ := hs.open3
  obtain ⟨m, hm⟩ : ∃ m, m = ts.length := ⟨_, rfl⟩
  rw [← hm] at HS c0 hcap
  have HM := Lib.hid hm
  have i1 : (m : Int) ≤ (cap : Int) := by omega
  clear h hQ hk0 b1 hI0 hs hcap
  clear hm
  by_cases hbig : 4096 < m
  · have F : Hid (stE ts = 2 ∧ stL ts = []) := Lib.hid ⟨if_pos (by rw [← HM.out]; exact hbig), if_pos (by rw [← HM.out]; exact hbig)⟩
    have j0 : (4096 : Int) < (m : Int) := by omega
    rw [hw1] at f1
    clear hbig hw1
    go_enter Try.func39, Try.ntmps39
    go_wp2_with fail
    (try rw [← HW1.out])
    exact FIN.out w1 _ _ _ 2 _ (HB1.out.selfT rfl).symm HB1.out HK.out rfl rfl rfl (by rw [F.out.2]; exact Tw.nil _) (fun b hb => by simp [Value.ownBlock] at hb) F.out.1.symm
  · have F : Hid (stE ts = 0 ∧ stL ts = ts) := Lib.hid ⟨if_neg (by rw [← HM.out]; exact hbig), if_neg (by rw [← HM.out]; exact hbig)⟩
    have j0 : (m : Int) ≤ 4096 := by omega
    clear hbig hw1
    go_enter Try.func39, Try.ntmps39
    go_wp2_with fail
    rw [← HW1.out]
    go_loopw [18] (fun iv wr => ∃ (k : Nat) (u : Value), iv = .int .i64 (k : Nat) ∧ k ≤ m ∧ MgI w wr w.heap.size u (.slice none 0 0) (ts.take k) []) (fun iv _ => m - (intOf iv).toNat)
    case atStart => exact ⟨0, _, rfl, Nat.zero_le _, HI0.out⟩
    case round =>
     obtain ⟨k, u, rfl, hk, hI⟩ := hrel
     rename World => wr
     have HI := Lib.hid hI
     obtain ⟨⟨u1, u2, u3, rfl⟩, -⟩ := row_frc hI.ow.owns
     by_cases hlt : k < m
     · have j1 : (k : Int) < (m : Int) := by omega
       obtain ⟨y, hy⟩ : ∃ y, ts[k]? = some y := ⟨_, List.getElem?_eq_getElem (by have := HM.out; omega)⟩
       have hyo : TxOk y := HS.out.ok y (List.mem_of_getElem? hy)
       obtain ⟨bb, bf, rfl, hcell⟩ := (HS.out.keep hI.kp).cell (by omega)
       have d0 := hcell k y hy
       obtain ⟨Y, hY⟩ : ∃ Y, Y = st y := ⟨_, rfl⟩
       have HCL : Hid (∀ w, Calls Try.prog 41 #[.string Y] w fun e w' => e = .returned (.string Y) ∧ Kp w w') := Lib.hid (fun w => by rw [hY]; exact Clone_t hyo w)
       rw [← hY] at d0
       have e0 := hI.blk.cell 0 rfl
       obtain ⟨W4, hW4⟩ : ∃ W, W = wr.drew := ⟨_, rfl⟩
       have HI4 : Hid (MgI w W4 w.heap.size (.slice u1 u2 u3) (.slice none 0 0) (ts.take k) []) := Lib.hid (hI.keep (by rw [hW4]; exact kp_drew wr))
       have c4 := HI4.out.blk.cell 0 rfl
       have HLN : Hid ((ts.take k).length ≤ 1000000) := Lib.hid (by rw [List.length_take]; omega)
       have HYO := Lib.hid hyo
       have HNS : Hid (ts.take (k + 1) = ts.take k ++ [y]) := Lib.hid (by rw [List.take_add_one, hy]; rfl)
       have HW4 := Lib.hid hW4; have HYY := Lib.hid hY
       clear hI hY hk hlt hW4 hcell hy hyo
       go_wp2_with fail
       refine wp_region_any (by kernel_rfl) ?_
       change wpAny _ _ _ _ _ _ _ (World.drew _)
       rw [← HW4.out]
       clear e0
       refine wpAny_take (i := 0) (v := (.pointer (some ⟨w.heap.size, 0, none⟩))) rfl (by kernel_rfl) (by kernel_rfl) (by kernel_rfl) (fun _ _ _ h => h) (Or.inl ⟨by rfl, fun wq => ?_⟩) ?_
       · go_simp
       try simp only [Act.put, List.setIfInBounds_toArray, List.set_cons_zero, List.set_cons_succ]
       refine wpAny_take (i := 2) (v := (.string Y)) rfl (by kernel_rfl) (by kernel_rfl) (by kernel_rfl) (fun _ _ _ h => h) (Or.inl ⟨by rfl, fun wq => ?_⟩) ?_
       · go_simp
       try simp only [Act.put, List.setIfInBounds_toArray, List.set_cons_zero, List.set_cons_succ]
       refine wpAny_ready (rs := [1, 3]) (by kernel_rfl) (by simp) (AllReady.cons rfl (fun KK hK => ?_) (AllReady.cons rfl (fun KK hK => ?_) AllReady.nil))
       · go_simp
         refine hK _ _ ?_
         clear hK KK
         try simp only [Act.put, List.setIfInBounds_toArray, List.set_cons_zero, List.set_cons_succ]
         refine wpAny_ready (rs := [3]) (by kernel_rfl) (by simp) (AllReady.cons rfl (fun KK hK => ?_) AllReady.nil)
         (go_simp; go_at_call 41; refine (HCL.out _).mono ?_; rintro e w5 ⟨rfl, hk5⟩; have hI5 := HI4.out.keep hk5; have c5 := hI5.blk.cell 0 rfl; clear hk5)
         refine hK _ _ ?_
         clear hK KK
         try simp only [Act.put, List.setIfInBounds_toArray, List.set_cons_zero, List.set_cons_succ]
         refine wpAny_ready (rs := [4]) (by kernel_rfl) (by simp) (AllReady.cons rfl (fun KK hK => ?_) AllReady.nil)
         (refine step_bldT rfl 26 25 rfl rfl rfl ?_; intro W6 hW6; have hI6 := hI5.keep (show Kp w5 W6 by rw [hW6]; exact kp_alloc _ _); have hb6 : Blk W6 w5.heap.size 9 #[.string (st y)] := by (rw [hW6, HYY.out]; exact Blk.new _ _ _)); (have c6 := hI6.blk.cell 0 rfl; clear hW6)
         refine hK _ _ ?_
         clear hK KK
         try simp only [Act.put, List.setIfInBounds_toArray, List.set_cons_zero, List.set_cons_succ]
         refine wpAny_ready (rs := [5]) (by kernel_rfl) (by simp) (AllReady.cons rfl (fun KK hK => ?_) AllReady.nil)
         (refine step_tx (w := w) rfl (.tmp 23) (.tmp 26) rfl (.slice u1 u2 u3) rfl hI6.ow HLN.out y HYO.out w5.heap.size rfl hb6 ?_; intro v7 w7 ho7 hg7 ha7; obtain ⟨⟨x1, x2, x3, rfl⟩, -⟩ := row_frc ho7.owns; obtain ⟨hb7, hI8⟩ := hI6.text ho7 hg7 ha7; have c7 := hb7.cell 0 rfl; have f7 := hb7.free 0; rw [← HNS.out] at hI8; have HX8 := Lib.hid hI8; clear ho7 hg7 ha7 hb7 hI8)
         refine hK _ _ ?_
         clear hK KK
         try simp only [Act.put, List.setIfInBounds_toArray, List.set_cons_zero, List.set_cons_succ]
         refine wpAny_ready (rs := [6]) (by kernel_rfl) (by simp) (AllReady.cons rfl (fun KK hK => ?_) AllReady.nil)
         go_simp
         refine hK _ _ ?_
         clear hK KK
         try simp only [Act.put, List.setIfInBounds_toArray, List.set_cons_zero, List.set_cons_succ]
         refine wpAny_ready (rs := [7]) (by kernel_rfl) (by simp) (AllReady.cons rfl (fun KK hK => ?_) AllReady.nil)
         go_simp
         refine hK _ _ ?_
         clear hK KK
         try simp only [Act.put, List.setIfInBounds_toArray, List.set_cons_zero, List.set_cons_succ]
         refine wpAny_done (by kernel_rfl) ?_ _
         go_wp2_with fail
         go_roundw
         case rel => exact ⟨k + 1, _, by go_num, by omega, HX8.out⟩
         case measure => simp [intOf]; omega
       · (go_simp; go_at_call 41; refine (HCL.out _).mono ?_; rintro e w5 ⟨rfl, hk5⟩; have hI5 := HI4.out.keep hk5; have c5 := hI5.blk.cell 0 rfl; clear hk5)
         refine hK _ _ ?_
         clear hK KK
         try simp only [Act.put, List.setIfInBounds_toArray, List.set_cons_zero, List.set_cons_succ]
         refine wpAny_ready (rs := [1, 4]) (by kernel_rfl) (by simp) (AllReady.cons rfl (fun KK hK => ?_) (AllReady.cons rfl (fun KK hK => ?_) AllReady.nil))
         · go_simp
           refine hK _ _ ?_
           clear hK KK
           try simp only [Act.put, List.setIfInBounds_toArray, List.set_cons_zero, List.set_cons_succ]
           refine wpAny_ready (rs := [4]) (by kernel_rfl) (by simp) (AllReady.cons rfl (fun KK hK => ?_) AllReady.nil)
           (refine step_bldT rfl 26 25 rfl rfl rfl ?_; intro W6 hW6; have hI6 := hI5.keep (show Kp w5 W6 by rw [hW6]; exact kp_alloc _ _); have hb6 : Blk W6 w5.heap.size 9 #[.string (st y)] := by (rw [hW6, HYY.out]; exact Blk.new _ _ _)); (have c6 := hI6.blk.cell 0 rfl; clear hW6)
           refine hK _ _ ?_
           clear hK KK
           try simp only [Act.put, List.setIfInBounds_toArray, List.set_cons_zero, List.set_cons_succ]
           refine wpAny_ready (rs := [5]) (by kernel_rfl) (by simp) (AllReady.cons rfl (fun KK hK => ?_) AllReady.nil)
           (refine step_tx (w := w) rfl (.tmp 23) (.tmp 26) rfl (.slice u1 u2 u3) rfl hI6.ow HLN.out y HYO.out w5.heap.size rfl hb6 ?_; intro v7 w7 ho7 hg7 ha7; obtain ⟨⟨x1, x2, x3, rfl⟩, -⟩ := row_frc ho7.owns; obtain ⟨hb7, hI8⟩ := hI6.text ho7 hg7 ha7; have c7 := hb7.cell 0 rfl; have f7 := hb7.free 0; rw [← HNS.out] at hI8; have HX8 := Lib.hid hI8; clear ho7 hg7 ha7 hb7 hI8)
           refine hK _ _ ?_
           clear hK KK
           try simp only [Act.put, List.setIfInBounds_toArray, List.set_cons_zero, List.set_cons_succ]
           refine wpAny_ready (rs := [6]) (by kernel_rfl) (by simp) (AllReady.cons rfl (fun KK hK => ?_) AllReady.nil)
           go_simp
           refine hK _ _ ?_
           clear hK KK
           try simp only [Act.put, List.setIfInBounds_toArray, List.set_cons_zero, List.set_cons_succ]
           refine wpAny_ready (rs := [7]) (by kernel_rfl) (by simp) (AllReady.cons rfl (fun KK hK => ?_) AllReady.nil)
           go_simp
           refine hK _ _ ?_
           clear hK KK
           try simp only [Act.put, List.setIfInBounds_toArray, List.set_cons_zero, List.set_cons_succ]
           refine wpAny_done (by kernel_rfl) ?_ _
           go_wp2_with fail
           go_roundw
           case rel => exact ⟨k + 1, _, by go_num, by omega, HX8.out⟩
           case measure => simp [intOf]; omega
         · (refine step_bldT rfl 26 25 rfl rfl rfl ?_; intro W6 hW6; have hI6 := hI5.keep (show Kp w5 W6 by rw [hW6]; exact kp_alloc _ _); have hb6 : Blk W6 w5.heap.size 9 #[.string (st y)] := by (rw [hW6, HYY.out]; exact Blk.new _ _ _)); (have c6 := hI6.blk.cell 0 rfl; clear hW6)
           refine hK _ _ ?_
           clear hK KK
           try simp only [Act.put, List.setIfInBounds_toArray, List.set_cons_zero, List.set_cons_succ]
           refine wpAny_ready (rs := [1]) (by kernel_rfl) (by simp) (AllReady.cons rfl (fun KK hK => ?_) AllReady.nil)
           go_simp
           refine hK _ _ ?_
           clear hK KK
           try simp only [Act.put, List.setIfInBounds_toArray, List.set_cons_zero, List.set_cons_succ]
           refine wpAny_ready (rs := [5]) (by kernel_rfl) (by simp) (AllReady.cons rfl (fun KK hK => ?_) AllReady.nil)
           (refine step_tx (w := w) rfl (.tmp 23) (.tmp 26) rfl (.slice u1 u2 u3) rfl hI6.ow HLN.out y HYO.out w5.heap.size rfl hb6 ?_; intro v7 w7 ho7 hg7 ha7; obtain ⟨⟨x1, x2, x3, rfl⟩, -⟩ := row_frc ho7.owns; obtain ⟨hb7, hI8⟩ := hI6.text ho7 hg7 ha7; have c7 := hb7.cell 0 rfl; have f7 := hb7.free 0; rw [← HNS.out] at hI8; have HX8 := Lib.hid hI8; clear ho7 hg7 ha7 hb7 hI8)
           refine hK _ _ ?_
           clear hK KK
           try simp only [Act.put, List.setIfInBounds_toArray, List.set_cons_zero, List.set_cons_succ]
           refine wpAny_ready (rs := [6]) (by kernel_rfl) (by simp) (AllReady.cons rfl (fun KK hK => ?_) AllReady.nil)
           go_simp
           refine hK _ _ ?_
           clear hK KK
           try simp only [Act.put, List.setIfInBounds_toArray, List.set_cons_zero, List.set_cons_succ]
           refine wpAny_ready (rs := [7]) (by kernel_rfl) (by simp) (AllReady.cons rfl (fun KK hK => ?_) AllReady.nil)
           go_simp
           refine hK _ _ ?_
           clear hK KK
           try simp only [Act.put, List.setIfInBounds_toArray, List.set_cons_zero, List.set_cons_succ]
           refine wpAny_done (by kernel_rfl) ?_ _
           go_wp2_with fail
           go_roundw
           case rel => exact ⟨k + 1, _, by go_num, by omega, HX8.out⟩
           case measure => simp [intOf]; omega
     · obtain rfl : k = m := by omega
       have htk : ts.take k = ts := List.take_of_length_le (by have := HM.out; omega)
       rw [htk] at HI
       have d0 := HI.out.blk.cell 0 rfl
       have g0 := HI.out.blk.free 0
       have HU : Hid (∀ c, (Value.slice u1 u2 u3).ownBlock = some c → w.heap.size + 1 ≤ c) := Lib.hid (fun c hc => by have h1 := HI.out.ow.newer c hc; have h2 := HI.out.d1 c hc; omega)
       clear htk hI hlt hk
       go_wp2_with fail
       exact FIN.out wr _ _ _ 0 _ rfl HI.out.blk HI.out.kp rfl rfl rfl (by rw [F.out.2]; exact HI.out.ow.tw) HU.out F.out.1.symm
end By
end Go.Proofs.Ytlfoikjbbbhbdaa

/- The program's Put. No condition but that the text is not too long. -/
namespace Go.Proofs.Ytlfoikjbbbhbdaa
namespace By
open Go.RowKit WireN CtN
set_option linter.unusedVariables false
set_option linter.unusedSimpArgs false

theorem pt_bad {x : Tx} {ts : List Tx} (h : err ts = 0) (h2 : 4096 < (add ts x).length) : stE (add ts x) = 2 ∧ stL (add ts x) = [] ∧ ptE x ts = 2 ∧ ptL x ts = [] ∧ ptN x ts = 0 := by
  have h3 := (err_ok.1 h).1
  have hm : x ∉ ts := fun hm => by rw [add_in hm] at h2; omega
  have h4 : ts.length = 4096 := by rw [add_new hm] at h2; simp at h2; omega
  have h5 := ptE_full h hm h4
  exact ⟨if_pos h2, if_pos h2, h5, ptL_no (by rw [h5]; decide)⟩
theorem pt_fine {x : Tx} {ts : List Tx} (h : err ts = 0) (h2 : ¬ 4096 < (add ts x).length) : stE (add ts x) = 0 ∧ stL (add ts x) = add ts x ∧ ptE x ts = 0 ∧ ptL x ts = add ts x ∧ ptN x ts = fnd x (add ts x) := by
  have h5 : ptE x ts = 0 := by
    by_cases hm : x ∈ ts
    · exact ptE_in h hm
    · exact ptE_new h (fun h4 => by rw [add_new hm] at h2; simp at h2; omega)
  exact ⟨if_neg h2, if_neg h2, h5, ptL_ok h5⟩
set_option maxRecDepth 100000 in
set_option maxHeartbeats 4000000 in
theorem put13_any {w : World} {v : Value} {ts : List Tx} (hs : Tw w v ts) {x : Tx} (hx : TxOk x) :
    Calls Try.prog 13 #[.agg #[v], .string (st x)] w (PutR x ts w) := by
  obtain ⟨Q, hQ⟩ : ∃ Q, Q = PutR x ts w := ⟨_, rfl⟩
  rw [← hQ]
  obtain ⟨W, hW⟩ : ∃ W, W = (w.alloc (.cells #[v] 25)).alloc (.cells #[.slice none 0 0] 25) := ⟨_, rfl⟩
  have hk0 : Kp w W := by rw [hW]; exact Kp.alloc (kp_alloc _ _) _
  have b1 : Blk W w.heap.size 25 #[v] := by rw [hW]; exact (Blk.new _ _ _).keep (kp_alloc _ _)
  have b2 : Blk W (w.heap.size + 1) 25 #[.slice none 0 0] := by
    have := Blk.new (w.alloc (.cells #[v] 25)) 25 #[.slice none 0 0]
    rw [hW]
    simpa using this
  have hsz : W.heap.size = w.heap.size + 2 := by rw [hW]; simp
  have FIN : Hid (∀ (W' W2 : World) (u0 u : Value) (N E : Nat) (a : Act), W2 = W'.setCell ⟨w.heap.size + 1, 0, none⟩ u → Blk W' (w.heap.size + 1) 25 #[u0] → Kp w W' → a.defers = [] → a.tmps.getD 4 undef = .pointer (some ⟨w.heap.size + 1, 0, none⟩) → a.tmps.getD 5 undef = .int .i64 (N : Nat) → a.tmps.getD 6 undef = .int .i64 (E : Nat) → Tw W' u (ptL x ts) → (∀ b, u.ownBlock = some b → w.heap.size + 2 ≤ b) → N = ptN x ts → E = ptE x ts →
      bodyPost Try.prog Try.f13 Q .ret a W2) := Lib.hid (by
    intro W' W2 u0 u N E a hw2 hb hk h0 h4 h5 h6 hT hu hN hE
    subst hw2
    have b3 := hb.set 0 u
    have e0 := b3.cell 0 (v := u) rfl
    have h4' : a.tmps[4]?.getD undef = .pointer (some ⟨w.heap.size + 1, 0, none⟩) := by simpa using h4
    have h5' : a.tmps[5]?.getD undef = .int .i64 (N : Nat) := by simpa using h5
    have h6' : a.tmps[6]?.getD undef = .int .i64 (E : Nat) := by simpa using h6
    refine bodyPost_ret (v := .tuple #[.agg #[u], .int .i64 (N : Nat), .int .i64 (E : Nat)]) (by simp [results, Try.results13, go_sem, h4', h5', h6', e0]) h0 ?_
    rw [hQ]
    exact ⟨u, by rw [hN, hE], hT.setc (fun b hb2 => by have := hu b hb2; omega), fun b hb2 => by have := hu b hb2; omega, Only.kp hk ((Only.refl (w.heap.size + 1) W').set 0 _) (by omega)⟩)
  have HB := Lib.hid (tableOf_any (hs.keep hk0))
  have HW := Lib.hid hW; have HK := Lib.hid hk0; have HB1 := Lib.hid b1; have HB2 := Lib.hid b2; have HX := Lib.hid hx; have HSZ := Lib.hid hsz
  have c0 := b1.cell 0 rfl
  obtain ⟨ao, cap, rfl, -, -, -⟩ := hs.open3
  obtain ⟨m, hm⟩ : ∃ m, m = ts.length := ⟨_, rfl⟩
  rw [← hm] at HW HB1 HB c0 ⊢
  obtain ⟨X, hX⟩ : ∃ X, X = st x := ⟨_, rfl⟩
  rw [← hX]
  have HXX := Lib.hid hX
  clear hs hk0 b1 b2 hW hx hQ hsz hX hm
  go_enter Try.func13, Try.ntmps13
  go_wp2_with fail
  rw [← HW.out]
  refine HB.out.mono ?_
  rintro e w1 ⟨hk1, h⟩
  have HK1 := Lib.hid hk1
  clear hk1 c0
  rcases h with ⟨h0, rfl⟩ | ⟨h0, p, v, b, rfl, hT⟩
  · have F : Hid (ptE x ts = err ts ∧ ptL x ts = [] ∧ ptN x ts = 0) := Lib.hid (by
      have h := ptE_bad (x := x) h0
      exact ⟨h, ptL_no (by rw [h]; exact h0)⟩)
    obtain ⟨E, hE⟩ : ∃ E, E = err ts := ⟨_, rfl⟩
    rw [← hE] at h0 F ⊢
    have q : ((E : Int) != 0) = true := by simp; omega
    have hb4 := HB2.out.keep HK1.out
    have HB4 := Lib.hid hb4
    have f4 := hb4.free 0; have d4 := hb4.cell 0 rfl
    have hself := hb4.selfT (i := 0) (v := .slice none 0 0) rfl
    have HSF := Lib.hid hself
    clear hE h0 hb4 hself
    go_wp2_with fail
    exact FIN.out w1 _ _ (.slice none 0 0) 0 E _ (by first | exact HSF.out.symm | rfl) HB4.out (HK.out.trans HK1.out) rfl rfl rfl rfl (by rw [F.out.2.1]; exact Tw.nil _) (fun b hb => by simp [Value.ownBlock] at hb) F.out.2.2.symm F.out.1.symm
  · have hl := (err_ok.1 h0).1
    have HP := Lib.hid (put_any hT (by omega) HX.out)
    rw [← HXX.out] at HP
    have H0 := Lib.hid h0
    clear h0 hT hl
    go_wp2_with fail
    refine HP.out.mono ?_
    rintro e w2 ⟨v', rfl, hT2, -, -⟩
    have HK2 := Lib.hid hT2.kp
    have HS := Lib.hid (store_any hT2)
    obtain ⟨N, hN⟩ : ∃ N, N = fnd x (add ts x) := ⟨_, rfl⟩
    rw [← hN]
    have HN := Lib.hid hN
    clear hT2 hN
    go_wp2_with fail
    refine HS.out.mono ?_
    rintro e w3 ⟨u, rfl, hu, hnw, hk3⟩
    have hk4 : Kp W w3 := HK2.out.trans hk3
    by_cases hbig : 4096 < (add ts x).length
    · have F := Lib.hid (pt_bad H0.out hbig)
      rw [F.out.1]
      rw [F.out.2.1] at hu
      obtain ⟨x1, x3, rfl, -⟩ := hu.open3
      simp only [List.length_nil] at hu hnw ⊢
      have hb4 := (HB2.out.keep hk4).keep (kp_alloc w3 (.cells #[.slice x1 0 x3] 25))
      have HB4 := Lib.hid hb4
      have HK4 := Lib.hid ((HK.out.trans hk4).trans (kp_alloc w3 (.cells #[.slice x1 0 x3] 25)))
      have f4 := hb4.free 0; have d4 := hb4.cell 0 rfl
      have HSF := Lib.hid (hb4.selfT (i := 0) (v := .slice none 0 0) rfl)
      clear hbig hu hnw hk3 hk4 hb4
      go_wp2_with fail
      exact FIN.out _ _ _ (.slice none 0 0) 0 2 _ (by first | exact HSF.out.symm | rfl) HB4.out HK4.out rfl rfl rfl rfl (by rw [F.out.2.2.2.1]; exact Tw.nil _) (fun b hb => by simp [Value.ownBlock] at hb) F.out.2.2.2.2.symm F.out.2.2.1.symm
    · have F := Lib.hid (pt_fine H0.out hbig)
      rw [F.out.1]
      rw [F.out.2.1] at hu
      obtain ⟨x1, x3, rfl, -⟩ := hu.open3
      obtain ⟨x2, hx2⟩ : ∃ x2, x2 = (add ts x).length := ⟨_, rfl⟩
      rw [← hx2] at hu hnw ⊢
      have hb4 := (HB2.out.keep hk4).keep (kp_alloc w3 (.cells #[.slice x1 x2 x3] 25))
      have HB4 := Lib.hid hb4
      have HK4 := Lib.hid ((HK.out.trans hk4).trans (kp_alloc w3 (.cells #[.slice x1 x2 x3] 25)))
      have f4 := hb4.free 0; have d4 := hb4.cell 0 rfl
      have e4 := (Blk.new w3 25 #[.slice x1 x2 x3]).cell 0 rfl
      have HU := Lib.hid (hu.keep (kp_alloc w3 (.cells #[.slice x1 x2 x3] 25)))
      have HNW : Hid (∀ b, (Value.slice x1 x2 x3).ownBlock = some b → w.heap.size + 2 ≤ b) := Lib.hid (fun b hb => by have h1 := hnw b hb; have h2 := HK2.out.size; have h3 := HSZ.out; omega)
      clear hbig hu hnw hk3 hk4 hb4 hx2
      go_wp2_with fail
      exact FIN.out _ _ _ (.slice x1 x2 x3) N 0 _ rfl HB4.out HK4.out rfl rfl rfl rfl (by rw [F.out.2.2.2.1]; exact HU.out) HNW.out (by rw [HN.out]; exact F.out.2.2.2.2.symm) F.out.2.2.1.symm
end By
end Go.Proofs.Ytlfoikjbbbhbdaa
