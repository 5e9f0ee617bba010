/- The program's Set of keys. Condition: at most twelve keys, whose strings have at most a thousand bytes. -/
import Derived.Test.YtpgnckjgclbepaaDoorKyE
namespace Go.Proofs.YtpgnckjgclbepaaDoor
namespace By
open Go.RowKit WireN LexN RevN KeyN
set_option linter.unusedVariables false
set_option linter.unusedSimpArgs false

set_option maxRecDepth 100000 in
set_option maxHeartbeats 400000 in
theorem Clone_k (l : List Nat) (hl : l.length ≤ 1000000) (w : World) : Calls Tryd.prog 28 #[.string (st l)] w fun e w' => e = .returned (.string (st l)) ∧ Kp w w' := by
  have HC := Lib.hid (Tryd.stringslite_Clone (st l) w (by rw [st_size]; omega))
  obtain ⟨S, hS⟩ : ∃ S, S = st l := ⟨_, rfl⟩
  rw [← hS] at HC ⊢
  clear hS
  go_enter Tryd.func28, Tryd.ntmps28
  go_wp2_with fail
  refine HC.out.mono ?_
  rintro e w1 ⟨rfl, hk⟩
  have HK := Lib.hid hk
  clear hk
  go_wp2_with fail
  go_ret
  exact ⟨rfl, HK.out⟩
set_option maxRecDepth 100000 in
set_option maxHeartbeats 400000 in
theorem Values_k (v : Value) (w : World) (hv : ∃ a n c, v = .slice a n c) : Calls Tryd.prog 35 #[v] w fun e w' => e = .returned (.func (.func 48) #[] #[.pointer (some ⟨w.heap.size, 0, none⟩)]) ∧ w' = w.alloc (.cells #[v] 23) := by
  obtain ⟨a, n, c, rfl⟩ := hv
  go_enter Tryd.func35, Tryd.ntmps35
  go_wp2_with fail
  go_ret
  exact ⟨rfl, rfl⟩
set_option maxRecDepth 100000 in
set_option maxHeartbeats 400000 in
theorem Collect_k {w : World} {bx n cap : Nat} {ao : Option Addr} {ks : List Ky} (hb : Blk w bx 23 #[.slice ao n cap]) (hs : Kw w (.slice ao n cap) ks) (hn2 : n ≤ 1000) :
    Calls Tryd.prog 46 #[.func (.func 48) #[] #[.pointer (some ⟨bx, 0, none⟩)]] w fun e w' => ∃ v, e = .returned v ∧ OwK w w' v ks := by
  have HA := Lib.hid (AppendSeq_k hb hs hn2)
  clear hb hs hn2
  go_enter Tryd.func46, Tryd.ntmps46
  go_wp2_with fail
  refine HA.out.mono ?_
  rintro e w1 ⟨v, rfl, ho⟩
  have HO := Lib.hid ho
  obtain ⟨⟨a0, l0, c0, rfl⟩, -⟩ := row_frm ho.owns
  clear ho
  go_wp2_with fail
  go_ret
  exact ⟨_, rfl, HO.out⟩
/-- A row of one's own, as the sort takes it. -/
theorem OwK.sk {w wr : World} {v : Value} {ks : List Ky} (h : OwK w wr v ks) : ∃ g, SK wr v ks g ∧ w.heap.size ≤ g := by
  rcases List.eq_nil_or_concat ks with rfl | ⟨l, x, rfl⟩
  · rcases h.owns.2 with ⟨rfl, _⟩ | ⟨g, cap, cur, rfl, hb, hg, hnc, hcm, hsz, htake⟩
    · exact ⟨w.heap.size, .inl ⟨rfl, rfl⟩, Nat.le_refl _⟩
    · refine ⟨g, .inr ⟨cap, rfl, hnc, hcm, cur.toList, ?_⟩, hb⟩
      have e : (kcel ([] : List Ky) ++ cur.toList).toArray = cur := by simp [kcel]
      rw [e]
      exact hg
  · obtain ⟨g, cap, h1, h2, h3, h4, h5⟩ := h.rk (by simp)
    exact ⟨g, .inr ⟨cap, h1, h3, h4, h5⟩, h2⟩
theorem Gr.kpk {g : Nat} {a b c : World} (h : Gr g b c) (hk : Kp a b) (hg : a.heap.size ≤ g) : Kp a c := Gr.kp h hk hg
set_option maxRecDepth 100000 in
set_option maxHeartbeats 1000000 in
theorem SortedFunc_k {w : World} {bx n cap : Nat} {ao : Option Addr} {ks : List Ky} (hb : Blk w bx 23 #[.slice ao n cap]) (hs : Kw w (.slice ao n cap) ks) (hn2 : n ≤ 12) :
    Calls Tryd.prog 34 #[.func (.func 48) #[] #[.pointer (some ⟨bx, 0, none⟩)], .func (.func 36) #[] #[]] w fun e w' => ∃ v ys g, e = .returned v ∧ ys.length = n ∧ (∀ y, y ∈ ys ↔ y ∈ ks) ∧ SrtK ys n ∧ SK w' v ys g ∧ w.heap.size ≤ g ∧ Kp w w' := by
  obtain ⟨ao', cap', e, -, -, -⟩ := hs.open3
  simp only [Value.slice.injEq] at e
  obtain ⟨rfl, hn, rfl⟩ := e
  have HA := Lib.hid (Collect_k hb hs (by omega))
  have HN := Lib.hid hn
  have HN2 := Lib.hid hn2
  clear hb hs hn2 hn
  go_enter Tryd.func34, Tryd.ntmps34
  go_wp2_with fail
  refine HA.out.mono ?_
  rintro e w1 ⟨v, rfl, ho⟩
  have HK := Lib.hid ho.kp
  obtain ⟨g, hsk, hg⟩ := ho.sk
  have HG := Lib.hid hg
  have HS := Lib.hid (SortFunc_k Compare_any hsk HN.out.symm HN2.out ho.ok)
  obtain ⟨⟨a0, l0, c0, rfl⟩, -⟩ := row_frm ho.owns
  clear ho hsk hg
  go_wp2_with fail
  refine HS.out.mono ?_
  rintro e w2 ⟨rfl, ys, h1, h2, h3, h4, h5⟩
  have FIN : Hid (∃ v ys g, (Ending.returned (.slice a0 l0 c0)) = .returned v ∧ ys.length = n ∧ (∀ y, y ∈ ys ↔ y ∈ ks) ∧ SrtK ys n ∧ SK w2 v ys g ∧ w.heap.size ≤ g ∧ Kp w w2) := Lib.hid ⟨_, ys, g, rfl, h1, h2, h3, h4, HG.out, Gr.kp h5 HK.out HG.out⟩
  clear h1 h2 h3 h4 h5
  go_wp2_with fail
  go_ret
  exact FIN.out
/-- Keys with short strings. -/
def KyS (x : Ky) : Prop := (Lt x.2.1 ∧ Lt x.2.2) ∧ (x.2.1.length ≤ 1000 ∧ x.2.2.length ≤ 1000)
theorem KyS.ok {x : Ky} (h : KyS x) : KyOk x := ⟨h.1, by have := h.2.1; unfold maxLen; omega, by have := h.2.2; unfold maxLen; omega⟩
theorem K3.self {w : World} {b i : Nat} {x : Ky} {t : TypeId} {cs : Array Value} (hb : Blk w b t cs) (h : K3 w b i x) : ((w.setCell ⟨b, i, none⟩ (.int .i64 x.1)).setCell ⟨b, i + 1, none⟩ (.string (st x.2.1))).setCell ⟨b, i + 2, none⟩ (.string (st x.2.2)) = w := by
  have e : ∀ (j : Nat) (v : Value), w.cell? ⟨b, j, none⟩ = some v → w.setCell ⟨b, j, none⟩ v = w := by
    intro j v hv
    have hc : cs.setIfInBounds j v = cs := by
      have h2 := cell_of_row w b j cs t (0, 0) hb
      rw [hv] at h2
      obtain ⟨hi, he⟩ := Array.getElem?_eq_some_iff.1 h2.symm
      rw [← he]
      simp [Array.setIfInBounds, hi]
    rw [setCell_eq_setRow w b j cs t (0, 0) v hb, hc]
    exact setRow_self w b cs t (0, 0) hb
  rw [e _ _ h.1, e _ _ h.2.1, e _ _ h.2.2]
theorem RK.self {w : World} {g : Nat} {ks : List Ky} (h : RK w g ks) {j : Nat} {x : Ky} (hx : ks[j]? = some x) : ((w.setCell ⟨g, j * 3, none⟩ (.int .i64 x.1)).setCell ⟨g, j * 3 + 1, none⟩ (.string (st x.2.1))).setCell ⟨g, j * 3 + 2, none⟩ (.string (st x.2.2)) = w := by
  have := h.cell hx
  obtain ⟨rest, hb⟩ := h
  exact this.self hb
set_option maxRecDepth 100000 in
set_option maxHeartbeats 4000000 in
theorem Set_any {w : World} {v : Value} {ks : List Ky} (hs : Kw w v ks) (hn2 : ks.length ≤ 12) (hok : ∀ x ∈ ks, KyS x) :
    Calls Tryd.prog 26 #[v] w fun e w' => ∃ u, e = .returned u ∧ Kw w' u (setK ks) ∧ (∀ b, u.ownBlock = some b → w.heap.size ≤ b) ∧ Kp w w' := by
  obtain ⟨ao, cap, rfl, hcap, hmx, -⟩ := hs.open3
  obtain ⟨n, hn⟩ : ∃ n, n = ks.length := ⟨_, rfl⟩
  rw [← hn] at hs hn2 hcap ⊢
  obtain ⟨zs, hzs⟩ : ∃ zs, zs = setK ks := ⟨_, rfl⟩
  rw [← hzs]
  have HZS := Lib.hid hzs
  clear hzs
  have HS := Lib.hid hs; have HN := Lib.hid hn; have HOK := Lib.hid hok
  have HK0 := Lib.hid (kp_alloc w (.cells #[.slice ao n cap] 23))
  have HSF := Lib.hid (SortedFunc_k (Blk.new w 23 #[.slice ao n cap]) (hs.keep HK0.out) hn2)
  have HN2 : Hid (n ≤ 12) := Lib.hid hn2
  clear hs hn hok hcap hmx hn2
  go_enter Tryd.func26, Tryd.ntmps26
  go_wp2_with fail
  refine (Values_k _ _ ⟨_, _, _, rfl⟩).mono ?_
  rintro e w1 ⟨rfl, rfl⟩
  go_wp2_with fail
  refine HSF.out.mono ?_
  rintro e w1 ⟨v1, ys, g, rfl, h1, h2, h3, h4, h5, h6⟩
  have HCM := Lib.hid (Compact_k h4 h1 (by have := HN2.out; omega) (fun x hx => (HOK.out x ((h2 x).1 hx)).ok))
  have HSET : Hid (cuK ys n = setK ks) := Lib.hid (by rw [← h1]; exact cuK_set (by rw [h1]; exact h3) h2)
  have HG : Hid (w.heap.size ≤ g) := Lib.hid (by have := HK0.out.size; omega)
  have HK1 := Lib.hid (Kp.trans HK0.out h6)
  have hv1 : ∃ a n c, v1 = .slice a n c := by
    rcases h4 with ⟨rfl, _⟩ | ⟨c, rfl, _⟩
    · exact ⟨_, _, _, rfl⟩
    · exact ⟨_, _, _, rfl⟩
  obtain ⟨a1, n1, c1, rfl⟩ := hv1
  clear h1 h2 h3 h4 h5 h6
  go_wp2_with fail
  refine HCM.out.mono ?_
  rintro e w2 ⟨u, rfl, hsk, hgr⟩
  rw [HSET.out] at hsk
  have HK2 := Lib.hid (Gr.kp hgr HK1.out HG.out)
  have HZ : Hid (∀ x ∈ zs, KyS x) := Lib.hid (fun x hx => HOK.out x (by rw [HZS.out] at hx; exact setK_mem.1 hx))
  have HZL : Hid (zs.length ≤ 12) := Lib.hid (by have := setK_len ks; rw [HZS.out]; have := HN.out; have := HN2.out; omega)
  rw [← HZS.out] at hsk
  clear hgr HSET
  rcases hsk with ⟨rfl, rfl⟩ | ⟨cz, rfl, hcz, hmz, hrk⟩
  · go_wp2_with fail
    refine wp_loop_rounds 1 ?_
    rw [rounds_succ]
    go_wp2_with fail
    go_ret
    exact ⟨_, rfl, Kw.nil _, fun b hb => by simp [Value.ownBlock] at hb, HK2.out⟩
  · obtain ⟨m, hm⟩ : ∃ m, m = zs.length := ⟨_, rfl⟩
    rw [← hm] at hcz HZL ⊢
    have HM := Lib.hid hm; have HRK := Lib.hid hrk
    have HOB : Hid (∀ b, (Value.slice (some ⟨g, 0, none⟩) m cz).ownBlock = some b → w.heap.size ≤ b) := Lib.hid (fun b hb => by
      have e : g = b := by simpa [Value.ownBlock] using hb
      rw [← e]
      exact HG.out)
    have FIN : Hid (∀ W, Kp w2 W → ∃ u, Ending.returned (.slice (some ⟨g, 0, none⟩) m cz) = .returned u ∧ Kw W u zs ∧ (∀ b, u.ownBlock = some b → w.heap.size ≤ b) ∧ Kp w W) := Lib.hid (fun W hk =>
      ⟨_, rfl, (HRK.out.keep hk).kw HM.out.symm hcz hmz (fun x hx => (HZ.out x hx).ok), HOB.out, Kp.trans HK2.out hk⟩)
    have hci : (m : Int) ≤ (cz : Int) := by omega
    have hmi : (m : Int) ≤ 12 := by have := HZL.out; omega
    clear hm hrk hcz hmz
    go_wp2_with fail
    go_loopw [12] (fun i wr => ∃ k : Nat, i = .int .i64 (k : Nat) ∧ k ≤ m ∧ Kp w2 wr) (fun i _ => m - (intOf i).toNat)
    case atStart => exact ⟨0, rfl, Nat.zero_le _, Kp.refl _⟩
    case round =>
      obtain ⟨k, rfl, hk, hkp⟩ := hrel
      rename World => wx
      have HKP := Lib.hid hkp
      clear hkp
      by_cases hkm : k < m
      · have hki : (k : Int) < (m : Int) := by omega
        obtain ⟨x, hx⟩ : ∃ x, zs[k]? = some x := ⟨_, List.getElem?_eq_getElem (by have := HM.out; omega)⟩
        have hxs := HZ.out x (List.mem_of_getElem? hx)
        have CC : Hid (∀ S : ByteArray, (S = st x.2.1 ∨ S = st x.2.2) → ∀ W, Calls Tryd.prog 28 #[.string S] W fun e w' => e = .returned (.string S) ∧ Kp W w') := Lib.hid (fun S h W => by
          rcases h with rfl | rfl
          · exact Clone_k x.2.1 (by have := hxs.2.1; omega) W
          · exact Clone_k x.2.2 (by have := hxs.2.2; omega) W)
        obtain ⟨WA, hWA⟩ : ∃ WA, WA = wx.alloc (.cells #[.int .i64 x.1, .string (st x.2.1), .string (st x.2.2)] 29) := ⟨_, rfl⟩
        have HKA : Hid (Kp wx WA) := Lib.hid (by rw [hWA]; exact kp_alloc wx _)
        have HWA := Lib.hid hWA
        have hbA : Blk WA wx.heap.size 29 #[.int .i64 x.1, .string (st x.2.1), .string (st x.2.2)] := by rw [hWA]; exact Blk.new _ _ _
        have hgA := (HRK.out.keep HKP.out).keep HKA.out
        obtain ⟨c0, c1, c2⟩ := (HRK.out.keep HKP.out).cell hx
        have FACT : Hid (∀ W, Kp WA W → (W.cell? ⟨wx.heap.size, 0, none⟩ = some (.int .i64 x.1) ∧ W.cell? ⟨wx.heap.size, 1, none⟩ = some (.string (st x.2.1)) ∧ W.cell? ⟨wx.heap.size, 2, none⟩ = some (.string (st x.2.2))) ∧
            (W.cell? ⟨g, k * 3, none⟩ = some (.int .i64 x.1) ∧ W.cell? ⟨g, k * 3 + 1, none⟩ = some (.string (st x.2.1)) ∧ W.cell? ⟨g, k * 3 + 2, none⟩ = some (.string (st x.2.2))) ∧
            W.frozen? ⟨g, k * 3, none⟩ = false ∧ W.frozen? ⟨g, k * 3 + 1, none⟩ = false ∧ W.frozen? ⟨g, k * 3 + 2, none⟩ = false) := Lib.hid (fun W hk =>
          ⟨⟨(hbA.keep hk).cell 0 rfl, (hbA.keep hk).cell 1 rfl, (hbA.keep hk).cell 2 rfl⟩, (hgA.keep hk).cell hx, (hgA.keep hk).free _, (hgA.keep hk).free _, (hgA.keep hk).free _⟩)
        have SELF : Hid (∀ W, Kp WA W → ((W.setCell ⟨g, k * 3, none⟩ (.int .i64 x.1)).setCell ⟨g, k * 3 + 1, none⟩ (.string (st x.2.1))).setCell ⟨g, k * 3 + 2, none⟩ (.string (st x.2.2)) = W) := Lib.hid (fun W hk => (hgA.keep hk).self hx)
        obtain ⟨x1, x2, x3⟩ := x
        simp only at CC HWA FACT SELF c0 c1 c2
        obtain ⟨S1, hS1⟩ : ∃ S, S = st x2 := ⟨_, rfl⟩
        obtain ⟨S2, hS2⟩ : ∃ S, S = st x3 := ⟨_, rfl⟩
        rw [← hS1, ← hS2] at HWA FACT SELF CC
        rw [← hS1] at c1
        rw [← hS2] at c2
        clear hx hxs hWA hbA hgA hS1 hS2
        go_wp2_with fail
        rw [← HWA.out]
        clear c0 c1 c2
        go_region_held3 (fun w' => (w'.cell? ⟨wx.heap.size, 0, none⟩ = some (.int .i64 x1) ∧ w'.cell? ⟨wx.heap.size, 1, none⟩ = some (.string S1) ∧ w'.cell? ⟨wx.heap.size, 2, none⟩ = some (.string S2)) ∧
            (w'.cell? ⟨g, k * 3, none⟩ = some (.int .i64 x1) ∧ w'.cell? ⟨g, k * 3 + 1, none⟩ = some (.string S1) ∧ w'.cell? ⟨g, k * 3 + 2, none⟩ = some (.string S2)) ∧
            w'.frozen? ⟨g, k * 3, none⟩ = false ∧ w'.frozen? ⟨g, k * 3 + 1, none⟩ = false ∧ w'.frozen? ⟨g, k * 3 + 2, none⟩ = false)
          (first
            | exact FACT.out _ (Kp.refl _)
            | exact FACT.out _ (kp_drew _)
            | exact FACT.out _ hk3
            | exact FACT.out _ hk2
            | (rw [SELF.out _ hk3]; exact FACT.out _ hk3)
            | fail "no keep")
          (first
            | (go_at_call 28; have hk3q := hk2; refine (CC.out _ (by first | exact .inl rfl | exact .inr rfl) _).mono ?_; rintro e w3 ⟨rfl, hk3'⟩; have hk3 := Kp.trans hk2 hk3')
            | (go_at_call 28; refine (CC.out _ (by first | exact .inl rfl | exact .inr rfl) _).mono ?_; rintro e w2 ⟨rfl, hk2'⟩; have hk2 := Kp.trans (kp_drew WA) hk2')
            | fail "no arm")
        all_goals
          rw [SELF.out _ hk3]
          have HK3 := Lib.hid hk3
          clear hk3 hk2 hk2' hk3' hk3q
          go_wp2_with fail
          go_roundw
          case rel => exact ⟨k + 1, by go_num, by omega, Kp.trans HKP.out (Kp.trans HKA.out HK3.out)⟩
          case measure => simp [intOf]; omega
      · obtain rfl : k = m := by omega
        clear hkm hk
        go_wp2_with fail
        go_ret
        exact FIN.out _ HKP.out
end By
end Go.Proofs.YtpgnckjgclbepaaDoor
