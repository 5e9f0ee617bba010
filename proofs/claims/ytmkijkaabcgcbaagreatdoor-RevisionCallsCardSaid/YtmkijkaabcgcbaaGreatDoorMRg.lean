/- The program's isCount and read. Conditions: the slice reads as the frames that are named; the number is small. -/
import Derived.Test.YtmkijkaabcgcbaaGreatDoorMRp
import Derived.Test.YtmkijkaabcgcbaaGreatDoorMFs
namespace Go.Proofs.YtmkijkaabcgcbaaGreatDoor
namespace By
open Go.RowKit WireN LexN RevN
set_option linter.unusedVariables false
set_option linter.unusedSimpArgs false

set_option maxRecDepth 100000 in
set_option maxHeartbeats 2000000 in
theorem isCount_any {v : Value} {xs : List Nat} {w : World} (hs : Sl w v xs) (m : Nat) (hm : m ≤ 1000000) :
    Calls Tryz.prog 58 #[v, .int .i64 (m : Nat)] w fun e w' => e = .returned (.bool (isN xs m)) ∧ Kp w w' := by
  obtain ⟨ao, cap, rfl, -, -, -⟩ := hs.open3
  obtain ⟨n, hn⟩ : ∃ n, n = xs.length := ⟨_, rfl⟩
  rw [← hn] at hs ⊢
  obtain ⟨⟨t, p1, e1⟩, hr1⟩ : ∃ r, rd xs ((0 : Nat) : Int) = r := ⟨_, rfl⟩
  have hok : isN xs m = (decide (t = m) && (decide (e1 = 0) && decide (p1 = n))) := by
    unfold isN
    rw [← hn]
    have e0 : ((0 : Nat) : Int) = 0 := rfl
    rw [e0] at hr1
    rw [hr1]
  rw [hok]
  obtain ⟨W1, hW1⟩ : ∃ W1, W1 = w.alloc (.cells #[.slice ao n cap, .int .i64 0, .bool false] 106) := ⟨_, rfl⟩
  obtain ⟨pb, hpb⟩ : ∃ pb, pb = w.heap.size := ⟨_, rfl⟩
  have K1 : Hid (Kp w W1) := Lib.hid (by rw [hW1]; exact kp_alloc w _)
  have PB1 : Hid (Pl W1 pb ao n cap 0 false) := Lib.hid (by rw [hW1, hpb]; exact Blk.new _ _ _)
  have GP : Hid (w.heap.size ≤ pb) := Lib.hid (by omega)
  have HS := Lib.hid hs; have HR1 := Lib.hid hr1
  have HW1 := Lib.hid hW1; have EPB := Lib.hid hpb
  have hwm : IntKind.u64.wrap (m : Int) = (m : Int) := by rw [IntKind.wrap_u64]; omega
  obtain ⟨dd, hdd⟩ : ∃ d, d = decide (t = m) := ⟨_, rfl⟩
  have hq : ((t : Int) == (m : Int)) = dd := by
    rw [hdd, Bool.eq_iff_iff, beq_iff_eq, decide_eq_true_eq]
    omega
  rw [← hdd]
  clear hs hn hr1 hok hW1 hpb hm hdd
  go_enter Tryz.func58, Tryz.ntmps58
  go_wp2_with fail
  rw [← HW1.out, ← EPB.out]
  refine (number_pl PB1.out HS.out K1.out (Nat.zero_le _) HR1.out).mono ?_
  rintro r w2 ⟨rfl, hp2, ho2⟩
  have HK2 : Hid (Kp w w2) := Lib.hid (Only.kp K1.out ho2 GP.out)
  obtain ⟨b1, hb1⟩ : ∃ b1, b1 = (false || decide (e1 ≠ 0)) := ⟨_, rfl⟩
  rw [← hb1] at hp2
  have HD := Lib.hid (done_any hp2)
  have HB1 : Hid ((!b1 && decide (p1 = n)) = (decide (e1 = 0) && decide (p1 = n))) := Lib.hid (by rw [hb1]; simp)
  clear hp2 ho2 hb1
  cases dd with
  | false =>
    go_wp2_with fail
    go_ret
    exact ⟨rfl, HK2.out⟩
  | true =>
    rw [HB1.out] at HD
    go_wp2_with fail
    refine HD.out.mono ?_
    rintro r w3 ⟨rfl, k, rfl⟩
    go_wp2_with fail
    go_ret
    exact ⟨by simp, Kp.trans HK2.out (Kp.drewN _ _)⟩
/-- What read answers. -/
def ReadR (w : World) (fs : List (Nat × List Nat)) (e : Ending) (w' : World) : Prop :=
  ∃ u, e = .returned (.tuple #[.agg #[u], .bool (rdL fs).isSome]) ∧ (match rdL fs with | none => u = .slice none 0 0 | some r => OwF w w' u r) ∧ Kp w w'
end By
end Go.Proofs.YtmkijkaabcgcbaaGreatDoor

/- The program's read: the files of frames. Condition: the slice reads as the frames that are named. -/
namespace Go.Proofs.YtmkijkaabcgcbaaGreatDoor
namespace By
open Go.RowKit WireN LexN RevN
set_option linter.unusedVariables false
set_option linter.unusedSimpArgs false

/-- What is read of a payload is small enough. -/
theorem rdP_sm {w : World} {v : Value} {l : List Nat} (h : Sl w v l) : ((Lt (rdP l).1 ∧ Lt (rdP l).2) ∧ ((rdP l).1.length ≤ maxLen ∧ (rdP l).2.length ≤ maxLen)) := by
  have h1 := rdP_lt h.lt
  have h2 := h.len
  exact ⟨h1.1, Nat.le_trans h1.2.1 h2, Nat.le_trans h1.2.2 h2⟩
set_option maxRecDepth 100000 in
set_option maxHeartbeats 4000000 in
theorem read_any {v : Value} {fs : List (Nat × List Nat)} {w : World} (hf : Fs w v fs) : Calls Tryz.prog 57 #[v] w (ReadR w fs) := by
  obtain ⟨ao, cap, hv, hcap, -⟩ := hf.ex
  subst hv
  obtain ⟨n, hn⟩ : ∃ n, n = fs.length := ⟨_, rfl⟩
  have hnm : n ≤ 1000000 := by rw [hn]; exact hf.few
  rw [← hn] at hf hcap ⊢
  have hcp : (n : Int) ≤ (cap : Int) := by omega
  have hnmi : (n : Int) ≤ 1000000 := by omega
  obtain ⟨Q, hQ⟩ : ∃ Q, Q = ReadR w fs := ⟨_, rfl⟩
  rw [← hQ]
  have HQ := Lib.hid hQ
  obtain ⟨rb, hrb⟩ : ∃ rb, rb = w.heap.size := ⟨_, rfl⟩
  obtain ⟨W0, hW0⟩ : ∃ W0, W0 = w.alloc (.cells #[.slice none 0 0] 28) := ⟨_, rfl⟩
  have HK0 : Hid (Kp w W0) := Lib.hid (by rw [hW0]; exact kp_alloc w _)
  have RB0 : Hid (Blk W0 rb 28 #[.slice none 0 0]) := Lib.hid (by rw [hW0, hrb]; exact Blk.new w _ _)
  have HF := Lib.hid hf; have HN := Lib.hid hn; have HW0 := Lib.hid hW0; have ERB := Lib.hid hrb
  have GR : Hid (w.heap.size ≤ rb) := Lib.hid (by omega)
  have FIN : Hid (∀ (a : Act) (W : World) (u : Value) (b : Bool), a.defers = [] → a.tmps.getD 2 undef = .pointer (some ⟨rb, 0, none⟩) → a.tmps.getD 3 undef = .bool b → Blk W rb 28 #[u] → b = (rdL fs).isSome →
      (match rdL fs with | none => u = .slice none 0 0 | some r => OwF w W u r) → Kp w W → bodyPost Tryz.prog Tryz.f57 Q .ret a W) := Lib.hid (by
    intro a W u b h0 h2 h3 hb hbe hm hk
    have e0 := hb.cell 0 rfl
    have h2' : a.tmps[2]?.getD undef = .pointer (some ⟨rb, 0, none⟩) := by simpa using h2
    have h3' : a.tmps[3]?.getD undef = .bool b := by simpa using h3
    refine bodyPost_ret (v := .tuple #[.agg #[u], .bool b]) (by simp [results, Tryz.results57, go_sem, h2', h3', e0]) h0 ?_
    rw [HQ.out]
    exact ⟨u, by rw [hbe], hm, hk⟩)
  have BAD : Hid (∀ (a : Act) (W X : World), a.defers = [] → a.tmps.getD 2 undef = .pointer (some ⟨rb, 0, none⟩) → a.tmps.getD 3 undef = .bool false → (∃ u, Blk X rb 28 #[u]) → W = X.setCell ⟨rb, 0, none⟩ (.slice none 0 0) → rdL fs = none → Kp w X →
      bodyPost Tryz.prog Tryz.f57 Q .ret a W) := Lib.hid (by
    intro a W X h0 h2 h3 hb hW hr hk
    obtain ⟨u, hb⟩ := hb
    refine FIN.out a W (.slice none 0 0) false h0 h2 h3 (by rw [hW]; exact hb.set 0 _) (by rw [hr]; rfl) (by rw [hr]) ?_
    exact Only.kp hk (by rw [hW]; exact (Only.refl rb X).set 0 _) GR.out)
  clear hf hn hcap hnm hQ hrb hW0
  go_enter Tryz.func57, Tryz.ntmps57
  go_wp2_with fail
  rw [← HW0.out, ← ERB.out]
  go_loopw [10] (fun i wr => ∃ (k : Nat) (gs : List Fl) (vr : Value), i = .int .i64 k ∧ k ≤ n ∧ rdL (fs.take k) = some gs ∧ OwF w wr vr gs ∧ Blk wr rb 28 #[vr] ∧ (∀ b, vr.ownBlock = some b → b ≠ rb)) (fun i _ => n - (intOf i).toNat)
  case atStart => exact ⟨0, [], _, rfl, Nat.zero_le _, rfl, (OwF.start w).keep HK0.out, RB0.out, fun b hb => by simp [Value.ownBlock] at hb⟩
  case round =>
    obtain ⟨k, gs, vr, rfl, hk, hgs, hown, hrow, hne⟩ := hrel
    rename World => wx
    have HOWN := Lib.hid hown; have HROW := Lib.hid hrow; have HNE := Lib.hid hne; have HGS := Lib.hid hgs
    obtain ⟨⟨oa, ol, oc, hvr⟩, -⟩ := row_form hown.owns
    subst hvr
    clear hown hne hgs
    by_cases hkn : k < n
    · have hkl : k < fs.length := by have := HN.out; omega
      have hnef : fs ≠ [] := by intro e; rw [e] at hkl; simp at hkl
      obtain ⟨⟨K, PL⟩, ht⟩ : ∃ t, t = fs[k] := ⟨_, rfl⟩
      have htk : fs[k]? = some (K, PL) := by rw [ht]; exact List.getElem?_eq_getElem hkl
      obtain ⟨aa', ca', e1, -, hc1⟩ := (HF.out.keep HOWN.out.kp).ex
      injection e1 with e1a e1b e1c
      subst e1a e1c
      obtain ⟨g1, rfl, hcell1⟩ := hc1 hnef
      obtain ⟨u1, a0, a1, s1⟩ := hcell1 k _ htk
      simp only at a0 s1
      obtain ⟨o1, l1, rfl, -, -, -⟩ := s1.open3
      obtain ⟨L, hL⟩ : ∃ L, L = PL.length := ⟨_, rfl⟩
      rw [← hL] at a1 s1
      have HTK := Lib.hid htk; have HS1 := Lib.hid s1
      obtain ⟨WA, hWA⟩ : ∃ WA, WA = wx.alloc (.cells #[.int .i64 (K : Nat), .slice o1 L l1] 48) := ⟨_, rfl⟩
      have HWA := Lib.hid hWA
      have HKA : Hid (Kp wx WA) := Lib.hid (by rw [hWA]; exact kp_alloc wx _)
      have rbA := HROW.out.keep HKA.out
      have r0 := rbA.cell 0 rfl; have f0 := rbA.free 0
      have RBA := Lib.hid rbA
      rw [hWA] at r0 f0
      have GSM : Hid (gs.length ≤ 1000000) := Lib.hid (by have := rdL_len _ _ HGS.out; rw [List.length_take] at this; omega)
      clear hcell1 hc1 ht htk hkl e1b s1 hL hnef hrow hWA rbA
      by_cases hK : K = 1
      · have hx1 : ((K : Int) == 1) = true := by rw [beq_iff_eq]; omega
        have hx2 : ((K : Int) != 1) = false := by rw [bne_eq_false_iff_eq]; omega
        have HK1 : Hid (K = 1) := Lib.hid hK
        clear hK
        go_wp2_with fail
        rw [← HWA.out]
        refine (readFile_any (HS1.out.keep HKA.out)).mono ?_
        rintro e w2 ⟨rfl, hk2⟩
        have HK2 := Lib.hid (Kp.trans HKA.out hk2)
        have rb2 := RBA.out.keep hk2
        have HRW : Hid (rb < w2.heap.size) := Lib.hid rb2.lt
        obtain ⟨WB, hWB⟩ : ∃ WB, WB = w2.alloc (.cells #[.string (st (rdP PL).1), .string (st (rdP PL).2)] 55) := ⟨_, rfl⟩
        have HKB : Hid (Kp w2 WB) := Lib.hid (by rw [hWB]; exact kp_alloc w2 _)
        have HWB := Lib.hid hWB
        have hbB : Blk WB w2.heap.size 55 #[.string (st (rdP PL).1), .string (st (rdP PL).2)] := by rw [hWB]; exact Blk.new _ _ _
        have RBB := Lib.hid (rb2.keep HKB.out)
        have hrdf := rdF_ok PL
        have HLT := Lib.hid (rdP_sm HS1.out)
        obtain ⟨FL, hFL⟩ : ∃ FL, FL = rdP PL := ⟨_, rfl⟩
        obtain ⟨ok, hok⟩ : ∃ ok, ok = okP PL := ⟨_, rfl⟩
        rw [← hFL] at HWB hbB HLT hrdf ⊢
        rw [← hok] at hrdf ⊢
        have HRD := Lib.hid hrdf
        clear r0 f0 a0 a1 hk2 rb2 hWB hrdf hFL hok
        cases ok with
        | true =>
          have HR1 : Hid (rdF PL = some FL) := Lib.hid (by rw [HRD.out]; simp)
          have r0 := RBB.out.cell 0 rfl; have f0 := RBB.out.free 0
          have d0 := hbB.cell 0 rfl; have d1 := hbB.cell 1 rfl
          rw [HWB.out] at r0 f0 d0 d1
          have HBB := Lib.hid hbB
          have hz : WB.heap.size = w2.heap.size + 1 := by rw [HWB.out]; simp
          obtain ⟨S1, hS1⟩ : ∃ S, S = st FL.1 := ⟨_, rfl⟩
          obtain ⟨S2, hS2⟩ : ∃ S, S = st FL.2 := ⟨_, rfl⟩
          have HKC : Hid (Kp WB (WB.alloc (.cells #[.string S1, .string S2] 55))) := Lib.hid (kp_alloc WB _)
          have HBC : Hid (Blk (WB.alloc (.cells #[.string S1, .string S2] 55)) (w2.heap.size + 1) 55 #[.string (st FL.1), .string (st FL.2)]) := Lib.hid (by rw [← hz, hS1, hS2]; exact Blk.new _ _ _)
          have HOC : Hid (OwF w (WB.alloc (.cells #[.string S1, .string S2] 55)) (.slice oa ol oc) gs) := Lib.hid (HOWN.out.keep (Kp.trans HK2.out (Kp.trans HKB.out HKC.out)))
          have RBC : Hid (Blk (WB.alloc (.cells #[.string S1, .string S2] 55)) rb 28 #[.slice oa ol oc]) := Lib.hid (RBB.out.keep HKC.out)
          have HGS2 : Hid (rdL (fs.take (k + 1)) = some (gs ++ [FL])) := Lib.hid (by
            rw [List.take_add_one, HTK.out]
            exact rdL_snoc _ _ _ _ HGS.out HK1.out HR1.out)
          rw [← hS1, ← hS2] at HWB d0 d1 r0 f0 ⊢
          rw [HWB.out] at HBC HOC RBC
          clear hbB hS1 hS2 hz
          go_wp2_with (at_builtin; refine wpList_fl (w := w) rfl (.tmp 28) (.tmp 30) rfl _ rfl HOC.out GSM.out FL HLT.out (w2.heap.size + 1) rfl HBC.out ?_)
          intro v5 w5 hown5 hg5 hb5
          obtain ⟨⟨oa5, ol5, oc5, hv5⟩, -⟩ := row_form hown5.owns
          subst hv5
          have rb5 := RBC.out.by hg5 (fun e => HNE.out rb e.symm rfl)
          have HNE5 : Hid (∀ b, (Value.slice oa5 ol5 oc5).ownBlock = some b → b ≠ rb) := Lib.hid (by
            intro b hb e
            subst e
            rcases hb5 with h | h
            · exact HNE.out _ (h ▸ hb) rfl
            · rw [h] at hb
              have h1 := Option.some.inj hb
              have h2 := HRW.out
              omega)
          have r0 := rb5.cell 0 rfl; have f0 := rb5.free 0
          have RB5 := Lib.hid rb5; have HO5 := Lib.hid hown5
          clear hown5 hg5 hb5 rb5 d0 d1
          go_wp2_with fail
          obtain ⟨w6, hw6⟩ : ∃ w6, w6 = w5.setCell ⟨rb, 0, none⟩ (.slice oa5 ol5 oc5) := ⟨_, rfl⟩
          rw [← hw6]
          have o6 : Only rb w5 w6 := by rw [hw6]; exact (Only.refl rb w5).set 0 _
          have rb6 : Blk w6 rb 28 #[.slice oa5 ol5 oc5] := by rw [hw6]; exact RB5.out.set 0 _
          have HO6 := Lib.hid (HO5.out.only o6 GR.out HNE5.out); have RB6 := Lib.hid rb6
          clear hw6 o6 rb6 r0 f0
          go_roundw
          case rel => exact ⟨k + 1, gs ++ [FL], _, by go_num, by omega, HGS2.out, HO6.out, RB6.out, HNE5.out⟩
          case measure => simp [intOf]; omega
        | false =>
          have HR1 : Hid (rdL fs = none) := Lib.hid (rdL_bad fs k _ HTK.out (.inr (by rw [HRD.out]; simp)))
          have r0 := RBB.out.cell 0 rfl; have f0 := RBB.out.free 0
          rw [HWB.out] at r0 f0
          clear hbB
          go_wp2_with fail
          exact BAD.out _ _ WB rfl rfl rfl ⟨_, RBB.out⟩ (by rw [HWB.out]) HR1.out (Kp.trans HOWN.out.kp (Kp.trans HK2.out HKB.out))
      · have hx1 : ((K : Int) == 1) = false := beq_eq_false_iff_ne.2 (by omega)
        have hx2 : ((K : Int) != 1) = true := by rw [bne_iff_ne]; omega
        have HR1 : Hid (rdL fs = none) := Lib.hid (rdL_bad fs k _ HTK.out (.inl hK))
        clear hK
        go_wp2_with fail
        exact BAD.out _ _ WA rfl rfl rfl ⟨_, RBA.out⟩ (by rw [HWA.out]) HR1.out (Kp.trans HOWN.out.kp HKA.out)
    · obtain rfl : k = n := by omega
      have HR1 : Hid (rdL fs = some gs) := Lib.hid (by rw [← HGS.out, List.take_of_length_le (by have := HN.out; omega)])
      have r0 := HROW.out.cell 0 rfl; have f0 := HROW.out.free 0
      clear hrow
      go_wp2_with fail
      obtain ⟨w6, hw6⟩ : ∃ w6, w6 = wx.setCell ⟨rb, 0, none⟩ (.slice oa ol oc) := ⟨_, rfl⟩
      rw [← hw6]
      have o6 : Only rb wx w6 := by rw [hw6]; exact (Only.refl rb wx).set 0 _
      have rb6 : Blk w6 rb 28 #[.slice oa ol oc] := by rw [hw6]; exact HROW.out.set 0 _
      have ho6 := HOWN.out.only o6 GR.out HNE.out
      refine FIN.out _ _ (.slice oa ol oc) true rfl rfl rfl rb6 (by rw [HR1.out]; rfl) ?_ ho6.kp
      rw [HR1.out]
      exact ho6
end By
end Go.Proofs.YtmkijkaabcgcbaaGreatDoor

/- The program's Decode. Conditions: the slice holds the bytes that are named, at most a million; a package variable of the library holds some integer. -/
namespace Go.Proofs.YtmkijkaabcgcbaaGreatDoor
namespace By
open Go.RowKit Go.Shelf WireN LexN RevN
set_option linter.unusedVariables false
set_option linter.unusedSimpArgs false

theorem elemFr : Tryz.prog.elem 79 = 48 := by kernel_rfl
theorem sizeFr (w : World) : (sizeOf (Tryz.prog.elem 79)).run Tryz.prog w = .ok 2 w := by
  obtain ⟨i0, hi, hz0, hz1, hz2⟩ := info_parts infoF
  rw [elemFr]
  simp [sizeOf, typeInfo, hi, hz1]
theorem undFr : Tryz.prog.underlying 79 = some (.slice (Tryz.prog.elem 79)) := by rw [elemFr]; exact Tryz.underlying79
theorem slice_frames (ao : Option Addr) (len cap j : Nat) (J : Int) (hJ : J = j) (hj : j ≤ cap) (w : World) :
    (Instr.slice 79 (.slice ao len cap) none (some (.int .i64 J)) none).run Tryz.prog w = .ok (sliced ao 0 j cap 2) w := by
  subst hJ
  rw [run_slice_h w 79 ao len cap undFr .i64 (j : Int) (by omega) (by omega), sizeFr, Int.toNat_natCast]
  rfl
theorem Fs.to {w : World} {ao : Option Addr} {n cap : Nat} {fs : List (Nat × List Nat)} (h : Fs w (.slice ao n cap) fs) (j : Nat) (hj : j ≤ n) : Fs w (sliced ao 0 j cap 2) (fs.take j) := by
  obtain ⟨⟨a', c', e, hc, hx⟩, hf⟩ := h
  simp only [Value.slice.injEq] at e
  obtain ⟨rfl, rfl, rfl⟩ := e
  have hl : (fs.take j).length = j := by rw [List.length_take]; omega
  refine ⟨⟨if cap = 0 then ao else ao.map (·.add (0 * 2)), cap, ?_, by omega, fun hne => ?_⟩, by omega⟩
  · unfold sliced
    rw [hl]
    rfl
  · have hne' : fs ≠ [] := by rintro rfl; simp at hne
    obtain ⟨g, rfl, hcell⟩ := hx hne'
    have h0 : cap ≠ 0 := by
      have : fs.length ≠ 0 := fun e => hne' (List.length_eq_zero_iff.1 e)
      omega
    refine ⟨g, by rw [if_neg h0]; rfl, fun i x hi => ?_⟩
    have hlt : i < j := by
      have := (List.getElem?_eq_some_iff.1 hi).1
      omega
    rw [List.getElem?_take, if_pos hlt] at hi
    exact hcell i x hi
/-- What Decode answers. -/
def DecR (w : World) (xs : List Nat) (e : Ending) (w' : World) : Prop :=
  ∃ (fs : List (Nat × List Nat)) (q E : Nat) (u : Value), Chain xs 0 fs q ∧ Stops xs q E ∧ e = .returned (.tuple #[.agg #[u], .int .i64 ((dec fs E).1 : Nat)]) ∧ Rw w' u (dec fs E).2 ∧ Kp w w'
set_option maxRecDepth 100000 in
set_option maxHeartbeats 4000000 in
theorem Decode_any {v : Value} {xs : List Nat} {w : World} (hs : Sl w v xs) (hsm : xs.length ≤ 1000000) (hm : MX w) : Calls Tryz.prog 31 #[v] w (DecR w xs) := by
  obtain ⟨ao, cap, rfl, -, -, -⟩ := hs.open3
  obtain ⟨len, hlen⟩ : ∃ len, len = xs.length := ⟨_, rfl⟩
  rw [← hlen] at hs ⊢
  obtain ⟨Q, hQ⟩ : ∃ Q, Q = DecR w xs := ⟨_, rfl⟩
  rw [← hQ]
  have HQ := Lib.hid hQ
  obtain ⟨rb, hrb⟩ : ∃ rb, rb = w.heap.size := ⟨_, rfl⟩
  obtain ⟨W0, hW0⟩ : ∃ W0, W0 = w.alloc (.cells #[.slice none 0 0] 28) := ⟨_, rfl⟩
  have HK0 : Hid (Kp w W0) := Lib.hid (by rw [hW0]; exact kp_alloc w _)
  have RB0 : Hid (Blk W0 rb 28 #[.slice none 0 0]) := Lib.hid (by rw [hW0, hrb]; exact Blk.new w _ _)
  have HF := Lib.hid (Frames_any (hs.keep HK0.out) hsm)
  have HW0 := Lib.hid hW0; have ERB := Lib.hid hrb; have HM := Lib.hid hm; have HSM := Lib.hid hsm
  have GR : Hid (w.heap.size ≤ rb) := Lib.hid (by omega)
  clear hs hsm hm hlen hQ hrb hW0
  go_enter Tryz.func31, Tryz.ntmps31
  go_wp2_with fail
  rw [← HW0.out, ← ERB.out]
  refine HF.out.mono ?_
  rintro e w1 ⟨⟨fs, vps, q, E, vo, hst, rfl, hfr⟩, hk1⟩
  have HK1 := Lib.hid (Kp.trans HK0.out hk1)
  have rb1 := RB0.out.keep hk1
  have FIN : Hid (∀ (a : Act) (W X : World) (u : Value) (er : Nat) (gs : List Fl), a.defers = [] → a.tmps.getD 2 undef = .pointer (some ⟨rb, 0, none⟩) → a.tmps.getD 3 undef = .int .i64 (er : Nat) → (∃ u', Blk X rb 28 #[u']) → W = X.setCell ⟨rb, 0, none⟩ u →
      dec fs E = (er, gs) → (∀ W', Only rb X W' → Rw W' u gs) → Kp w X → bodyPost Tryz.prog Tryz.f31 Q .ret a W) := Lib.hid (by
    intro a W X u er gs h0 h2 h3 hb hW hd hr hk
    obtain ⟨u', hb⟩ := hb
    have oW : Only rb X W := by rw [hW]; exact (Only.refl rb X).set 0 _
    have hbW : Blk W rb 28 #[u] := by rw [hW]; exact hb.set 0 _
    have e0 := hbW.cell 0 rfl
    have h2' : a.tmps[2]?.getD undef = .pointer (some ⟨rb, 0, none⟩) := by simpa using h2
    have h3' : a.tmps[3]?.getD undef = .int .i64 (er : Nat) := by simpa using h3
    refine bodyPost_ret (v := .tuple #[.agg #[u], .int .i64 (er : Nat)]) (by simp [results, Tryz.results31, go_sem, h2', h3', e0]) h0 ?_
    rw [HQ.out]
    exact ⟨fs, q, E, u, hfr.ch, hst, by rw [hd], by rw [hd]; exact hr W oW, Only.kp hk oW GR.out⟩)
  have NIL : Hid (∀ (X W' : World), Only rb X W' → Rw W' (.slice none 0 0) []) := Lib.hid (fun _ W' _ => Rw.nil W')
  have hfs := hfr.fs HSM.out
  obtain ⟨ofr, cfr, hvo, hcfr, -⟩ := hfs.ex
  subst hvo
  obtain ⟨n, hn⟩ : ∃ n, n = fs.length := ⟨_, rfl⟩
  rw [← hn] at hfs hcfr ⊢
  have HFS := Lib.hid hfs; have HN := Lib.hid hn
  have hnf : (n : Int) ≤ 1000000 := by have := hfs.few; omega
  have hcpf : (n : Int) ≤ (cfr : Int) := by omega
  have r0 := rb1.cell 0 rfl; have f0 := rb1.free 0
  have RB1 := Lib.hid rb1
  clear hfs hcfr hn rb1 hfr hst
  by_cases hE : E = 0
  · subst hE
    by_cases h0 : n = 0
    · subst h0
      have HD : Hid (dec fs 0 = (7, [])) := Lib.hid (by unfold dec; rw [if_neg (by simp), if_pos (.inl HN.out.symm)])
      go_wp2_with fail
      exact FIN.out _ _ w1 _ 7 [] rfl rfl rfl ⟨_, RB1.out⟩ rfl HD.out (NIL.out w1) HK1.out
    · obtain ⟨m, rfl⟩ : ∃ m, n = m + 1 := ⟨n - 1, by omega⟩
      obtain ⟨g, rfl, hcell⟩ : ∃ g, ofr = some ⟨g, 0, none⟩ ∧ ∀ j x, fs[j]? = some x → ∃ u, w1.cell? ⟨g, j * 2, none⟩ = some (.int .i64 (x.1 : Nat)) ∧ w1.cell? ⟨g, j * 2 + 1, none⟩ = some u ∧ Sl w1 u x.2 := by
        obtain ⟨a', c', e, -, hx⟩ := HFS.out.ex
        simp only [Value.slice.injEq] at e
        obtain ⟨rfl, -, -⟩ := e
        exact hx (by intro e; have := HN.out; rw [e] at this; simp at this)
      obtain ⟨⟨K, PL⟩, hl⟩ : ∃ t, fs[m]? = some t := ⟨_, List.getElem?_eq_getElem (by have := HN.out; omega)⟩
      obtain ⟨u1, a0, a1, s1⟩ := hcell m _ hl
      simp only at a0 s1
      obtain ⟨o1, l1, rfl, -, -, -⟩ := s1.open3
      obtain ⟨L, hL⟩ : ∃ L, L = PL.length := ⟨_, rfl⟩
      rw [← hL] at a1 s1
      have HS1 := Lib.hid s1; have HL1 := Lib.hid hl
      have hlast : fs[fs.length - 1]? = some (K, PL) := by rw [← HN.out]; exact hl
      have HDK : Hid (dec fs 0 = if K ≠ 2 then (7, []) else match rdL (fs.take m) with | none => (6, []) | some r => if isN PL m = false then (6, []) else if chk r ≠ 0 then (chk r, []) else (0, r)) := Lib.hid (by
        have hm1 : fs.length - 1 = m := by rw [← HN.out]; omega
        have hne0 : fs.length ≠ 0 := by rw [← HN.out]; omega
        unfold dec
        rw [if_neg (by simp), hlast, hm1]
        simp only [Option.getD_some, hne0, false_or]
        rfl)
      have hmi : (m : Int) ≤ 1000000 := by omega
      have hmc : (m : Int) + 1 ≤ (cfr : Int) := by omega
      have HMC : Hid (m + 1 ≤ cfr) := Lib.hid (by omega)
      clear h0 hcell hl s1 hL hlast hnf hcpf
      by_cases hK : K = 2
      · have hx1 : ((K : Int) == 2) = true := by rw [beq_iff_eq]; omega
        have hx2 : ((K : Int) != 2) = false := by rw [bne_eq_false_iff_eq]; omega
        have HD1 : Hid (dec fs 0 = match rdL (fs.take m) with | none => (6, []) | some r => if isN PL m = false then (6, []) else if chk r ≠ 0 then (chk r, []) else (0, r)) := Lib.hid (by rw [HDK.out, if_neg (by omega)])
        have HSC : ∀ w, (Instr.slice 79 (.slice (some ⟨g, 0, none⟩) (m + 1) cfr) none (some (.int .i64 (m : Nat))) none).run Tryz.prog w = .ok (sliced (some ⟨g, 0, none⟩) 0 m cfr 2) w := fun w => slice_frames _ _ _ m _ rfl (by have := HMC.out; omega) w
        have HFT := Lib.hid (HFS.out.to m (by omega))
        obtain ⟨VS, hVS⟩ : ∃ V, V = sliced (some ⟨g, 0, none⟩) 0 m cfr 2 := ⟨_, rfl⟩
        rw [← hVS] at HSC HFT
        clear hK hVS
        go_wp2_with fail
        refine (read_any HFT.out).mono ?_
        rintro e w2 ⟨u, rfl, hu, hk2⟩
        have HK2 := Lib.hid (Kp.trans HK1.out hk2)
        have rb2 := RB1.out.keep hk2
        have HS2 := Lib.hid (HS1.out.keep hk2)
        have b1 := cell_kept a1 hk2
        have HRL : Hid (w1.heap.size ≤ w2.heap.size) := Lib.hid hk2.size
        have HRB : Hid (rb < w1.heap.size) := Lib.hid RB1.out.lt
        obtain ⟨rl, hrl⟩ : ∃ rl, rl = rdL (fs.take m) := ⟨_, rfl⟩
        rw [← hrl] at HD1 hu ⊢
        clear hrl a0 a1 r0 f0 hk2
        cases rl with
        | none =>
          have hu : u = .slice none 0 0 := hu
          subst hu
          have HD : Hid (dec fs 0 = (6, [])) := Lib.hid HD1.out
          obtain ⟨WB, hWB⟩ : ∃ WB, WB = w2.alloc (.cells #[.slice none 0 0] 28) := ⟨_, rfl⟩
          have HKB : Hid (Kp w2 WB) := Lib.hid (by rw [hWB]; exact kp_alloc w2 _)
          have rbB := rb2.keep HKB.out
          have r0 := rbB.cell 0 rfl; have f0 := rbB.free 0
          rw [hWB] at r0 f0
          have RBB := Lib.hid rbB; have HWB := Lib.hid hWB
          clear hWB rbB rb2 b1
          have his : (none : Option (List Fl)).isSome = false := rfl
          rw [his]
          clear his
          go_wp2_with fail
          exact FIN.out _ _ WB _ 6 [] rfl rfl rfl ⟨_, RBB.out⟩ (by rw [HWB.out]) HD.out (NIL.out WB) (Kp.trans HK2.out HKB.out)
        | some r =>
          have hu : OwF w1 w2 u r := hu
          obtain ⟨⟨ou, lu, cu, hue⟩, hub⟩ := row_form hu.owns
          subst hue
          have HUB : Hid (∀ b, (Value.slice ou lu cu).ownBlock = some b → b ≠ rb) := Lib.hid (fun b hb e => by have := (hub b hb).1; have := HRB.out; omega)
          have HD2 : Hid (dec fs 0 = if isN PL m = false then (6, []) else if chk r ≠ 0 then (chk r, []) else (0, r)) := Lib.hid HD1.out
          obtain ⟨WB, hWB⟩ : ∃ WB, WB = w2.alloc (.cells #[.slice ou lu cu] 28) := ⟨_, rfl⟩
          have HKB : Hid (Kp w2 WB) := Lib.hid (by rw [hWB]; exact kp_alloc w2 _)
          have HBB : Hid (Blk WB w2.heap.size 28 #[.slice ou lu cu]) := Lib.hid (by rw [hWB]; exact Blk.new w2 _ _)
          have HRU : Hid (Rw WB (.slice ou lu cu) r) := Lib.hid (hu.rw.keep HKB.out)
          have RBB := Lib.hid (rb2.keep HKB.out)
          have HSB := Lib.hid (HS2.out.keep HKB.out)
          have c1 := cell_kept b1 HKB.out
          rw [hWB] at c1
          have HWB := Lib.hid hWB
          have hma : m ≤ 1000000 := by omega
          have HIC := Lib.hid (isCount_any HSB.out m hma)
          obtain ⟨ic, hic⟩ : ∃ ic, ic = isN PL m := ⟨_, rfl⟩
          rw [← hic] at HIC HD2
          clear hic hma hu hub hWB rb2 b1
          have his : (some r : Option (List Fl)).isSome = true := rfl
          rw [his]
          clear his
          go_wp2_with fail
          rw [← HWB.out]
          refine HIC.out.mono ?_
          rintro e w3 ⟨rfl, hk3⟩
          have HK3 := Lib.hid (Kp.trans HK2.out (Kp.trans HKB.out hk3))
          have rb3 := RBB.out.keep hk3
          have d0 := (HBB.out.keep hk3).cell 0 rfl
          have HB3 := Lib.hid (HBB.out.keep hk3)
          have HR3 := Lib.hid (HRU.out.keep hk3)
          have r0 := rb3.cell 0 rfl; have f0 := rb3.free 0
          have RB3 := Lib.hid rb3
          clear hk3 rb3 c1
          cases ic with
          | false =>
            have HD : Hid (dec fs 0 = (6, [])) := Lib.hid (by rw [HD2.out]; simp)
            go_wp2_with fail
            exact FIN.out _ _ w3 _ 6 [] rfl rfl rfl ⟨_, RB3.out⟩ rfl HD.out (NIL.out w3) HK3.out
          | true =>
            have HD3 : Hid (dec fs 0 = if chk r ≠ 0 then (chk r, []) else (0, r)) := Lib.hid (by rw [HD2.out]; simp)
            have HCK := Lib.hid (Check_any HR3.out (HM.out.keep HK3.out))
            obtain ⟨er, her⟩ : ∃ er, er = chk r := ⟨_, rfl⟩
            rw [← her] at HD3 HCK
            clear her
            go_wp2_with fail
            refine HCK.out.mono ?_
            rintro e w4 ⟨rfl, hk4⟩
            have HK4 := Lib.hid (Kp.trans HK3.out hk4)
            have rb4 := RB3.out.keep hk4
            have c0 := (HB3.out.keep hk4).cell 0 rfl
            have HR4 := Lib.hid (HR3.out.keep hk4)
            have r0 := rb4.cell 0 rfl; have f0 := rb4.free 0
            have RB4 := Lib.hid rb4
            clear hk4 rb4 d0
            by_cases he : er = 0
            · subst he
              have HD : Hid (dec fs 0 = (0, r)) := Lib.hid (by rw [HD3.out]; simp)
              go_wp2_with fail
              exact FIN.out _ _ w4 _ 0 r rfl rfl rfl ⟨_, RB4.out⟩ rfl HD.out (fun W' ho => HR4.out.only ho HUB.out) HK4.out
            · have hy1 : ((er : Int) == 0) = false := beq_eq_false_iff_ne.2 (by omega)
              have hy2 : ((er : Int) != 0) = true := by rw [bne_iff_ne]; omega
              have HD : Hid (dec fs 0 = (er, [])) := Lib.hid (by rw [HD3.out, if_pos he])
              clear he
              go_wp2_with fail
              exact FIN.out _ _ w4 _ er [] rfl rfl rfl ⟨_, RB4.out⟩ rfl HD.out (NIL.out w4) HK4.out
      · have hx1 : ((K : Int) == 2) = false := beq_eq_false_iff_ne.2 (by omega)
        have hx2 : ((K : Int) != 2) = true := by rw [bne_iff_ne]; omega
        have HD : Hid (dec fs 0 = (7, [])) := Lib.hid (by rw [HDK.out, if_pos hK])
        clear hK
        go_wp2_with fail
        exact FIN.out _ _ w1 _ 7 [] rfl rfl rfl ⟨_, RB1.out⟩ rfl HD.out (NIL.out w1) HK1.out
  · have hx1 : ((E : Int) == 0) = false := beq_eq_false_iff_ne.2 (by omega)
    have hx2 : ((E : Int) != 0) = true := by rw [bne_iff_ne]; omega
    have HD : Hid (dec fs E = (E, [])) := Lib.hid (by unfold dec; rw [if_pos hE])
    clear hE
    go_wp2_with fail
    exact FIN.out _ _ w1 _ E [] rfl rfl rfl ⟨_, RB1.out⟩ rfl HD.out (NIL.out w1) HK1.out
end By
end Go.Proofs.YtmkijkaabcgcbaaGreatDoor
