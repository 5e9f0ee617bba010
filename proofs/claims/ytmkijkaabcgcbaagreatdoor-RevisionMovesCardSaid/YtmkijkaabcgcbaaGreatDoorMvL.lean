/- The law on moves of a revision's files: it returns true, and leaves what was there. Conditions: the slice reads as the integers that are named; a package variable of the library holds some integer. -/
import Derived.Test.YtmkijkaabcgcbaaGreatDoorMvN
import Derived.Test.YtmkijkaabcgcbaaGreatDoorRvW
import Derived.Test.YtmkijkaabcgcbaaGreatDoorMRl
namespace Go.Proofs.YtmkijkaabcgcbaaGreatDoor
namespace By
open Go.RowKit Go.Shelf WireN LexN RevN
set_option linter.unusedVariables false
set_option linter.unusedSimpArgs false

theorem zz_st : st zzN = ⟨#[122, 122, 47, 110, 101, 119]⟩ := by decide +kernel
theorem split_k {fs : List Fl} {k : Nat} {f : Fl} (h : fs[k]? = some f) : fs = fs.take k ++ f :: fs.drop (k + 1) := by
  obtain ⟨hk, he⟩ := List.getElem?_eq_some_iff.1 h
  rw [← he, ← List.drop_eq_getElem_cons hk, List.take_append_drop]
/-- A revision without an error, in memory that is new. -/
def RvOk (W : World) (gs : List Fl) (e : Ending) (w' : World) : Prop :=
  ∃ a l c, e = .returned (.tuple #[.agg #[.slice a l c], .int .i64 0]) ∧ Rw w' (.slice a l c) gs ∧ (∀ b, (Value.slice a l c).ownBlock = some b → W.heap.size ≤ b) ∧ Kp W w'
theorem RevR.ok {W : World} {gs : List Fl} {e : Ending} {w' : World} (h : RevR W (0, gs) e w') : RvOk W gs e w' := by
  obtain ⟨v, h1, h2, h3, h4⟩ := h
  obtain ⟨a, l, c, rfl⟩ := h2.form
  exact ⟨a, l, c, h1, h2, h3, h4⟩

set_option maxRecDepth 100000 in
set_option maxHeartbeats 16000000 in
theorem revMoves_short {zs : List Int} {v : Value} {b : List Nat} {w : World} (hz : SlI w v zs) (hb : Lt b) (hbl : b.length ≤ 100) (hm : MX w) :
    Calls Tryz.prog 6 #[v, .string (st b)] w fun e w' => e = .returned (.bool true) ∧ Kp w w' := by
  have hz' := hz
  obtain ⟨⟨ao, cap, rfl, hc, hmx, hat⟩, hlt, hsm⟩ := hz
  obtain ⟨len0, hlen⟩ : ∃ len, len = zs.length := ⟨_, rfl⟩
  rw [← hlen] at hz' ⊢
  obtain ⟨w1, hw1⟩ : ∃ w1, w1 = w.alloc (Obj.cells #[.slice ao len0 cap, .int .i64 0] 25) := ⟨_, rfl⟩
  have htp : Tp w w1 w.heap.size 0 := by
    rw [hw1]
    exact ⟨⟨ao, len0, cap, zs, hz', Blk.new _ _ _⟩, Kp.alloc (Kp.refl _) _, Nat.le_refl _⟩
  have HRV := Lib.hid (Revision_q (n := 0) ⟨0, by omega, htp⟩)
  have HM1 : Hid (MX w1) := Lib.hid (hm.keep htp.kp)
  have HW1 := Lib.hid hw1; have HM := Lib.hid hm
  obtain ⟨bl, hbl0⟩ : ∃ bl, bl = b.length := ⟨_, rfl⟩
  have qs : ∀ w, (Builtin.len_ #[9] 3 #[.string (st b)]).run Tryz.prog w = .ok (goInt bl) w := fun w => by rw [hbl0]; exact len w
  rw [← hbl0] at hbl

  have i1 : (bl : Int) ≤ (100 : Int) := by omega
  obtain ⟨B, hB⟩ : ∃ B, B = b := ⟨_, rfl⟩
  have hLB : Lt B := by rw [hB]; exact hb
  have hLL : B.length ≤ 100 := by rw [hB]; omega
  obtain ⟨S, hS⟩ : ∃ S, S = st B := ⟨_, rfl⟩
  have HS : Hid (st B = S) := Lib.hid hS.symm
  rw [← hB, ← hS] at qs ⊢
  clear hS hB

  have HLB := Lib.hid hLB; have HLL := Lib.hid hLL
  clear hz' hc hmx hat hlt hsm hlen hw1 htp hm hLB hLL hb hbl hbl0
  go_enter Tryz.func6, Tryz.ntmps6
  go_wp2_with fail
  rw [← HW1.out]
  refine HRV.out.mono ?_
  rintro e w2 ⟨⟨u, fs, rfl, hr, hp⟩, hq, hg⟩
  have HK2 : Hid (Kp w w2) := Lib.hid hq.base
  have HF : Hid (Few fs) := Lib.hid (hp.few (by omega))
  obtain ⟨ua, uc, hu, huc, -, -⟩ := hr.open3
  obtain ⟨n, hn⟩ : ∃ n, n = fs.length := ⟨_, rfl⟩
  rw [← hn] at hu huc
  subst hu
  have HN := Lib.hid hn
  obtain ⟨rb, hrb⟩ : ∃ b, b = w2.heap.size := ⟨_, rfl⟩
  obtain ⟨Wr, hWr⟩ : ∃ W, W = w2.alloc (.cells #[.slice ua n uc] 28) := ⟨_, rfl⟩
  have k2 : Kp w2 Wr := by rw [hWr]; exact kp_alloc _ _
  have HKR : Hid (Kp w Wr) := Lib.hid (Kp.trans HK2.out k2)
  have RB : Hid (Blk Wr rb 28 #[.slice ua n uc]) := Lib.hid (by rw [hWr, hrb]; exact Blk.new _ _ _)
  have HR : Hid (Rw Wr (.slice ua n uc) fs) := Lib.hid (hr.keep k2)
  have HMR : Hid (∀ W, Kp Wr W → MX W) := Lib.hid (fun W hk => HM.out.keep (Kp.trans HKR.out hk))
  have HWR := Lib.hid hWr; have HRB := Lib.hid hrb
  have HLT : Hid (∀ f ∈ fs, Lt f.1 ∧ Lt f.2) := Lib.hid hr.lt
  have hn20 : n ≤ 20 := by rw [hn]; exact HF.out.len
  have hucI : (n : Int) ≤ (uc : Int) := by omega
  have x0 := RB.out.cell 0 rfl
  rw [hWr, hrb] at x0
  have CSAME : Hid (∀ W x y gs, Rw W x gs → Rw W y gs → Calls Tryz.prog 11 #[.agg #[x], .agg #[y]] W fun e w' => e = .returned (.bool true) ∧ Kp W w') := Lib.hid (fun W x y gs h1 h2 => by
    have h := rSame_any h1 h2
    rw [decide_eq_true rfl] at h
    exact h)
  have CA : Hid (∀ W, Kp Wr W → Calls Tryz.prog 23 #[] W fun e w' => e = .returned (.bool true) ∧ Kp W w') := Lib.hid (fun W hk => rvAwake_any (HMR.out W hk))
  have CPZ : Hid (∀ W u gs, Kp Wr W → Few gs → Rw W u gs → Calls Tryz.prog 17 #[.agg #[u], .string ⟨#[122, 122, 47, 110, 101, 119]⟩, .string S] W (RvOk W (gs ++ [(zzN, B)]))) := Lib.hid (fun W u gs hk hf hu => by
    have h := Put_any hu zz_lt HLB.out (HMR.out W hk)
    rw [hf.putF_zz (by have := HLL.out; omega), zz_st, HS.out] at h
    exact h.mono (fun e w' h => h.ok))
  have CRZ : Hid (∀ W u, Kp Wr W → Rw W u (fs ++ [(zzN, B)]) → Calls Tryz.prog 19 #[.agg #[u], .string ⟨#[122, 122, 47, 110, 101, 119]⟩] W (RvOk W fs)) := Lib.hid (fun W u hk hu => by
    have h := Remove_any hu zz_lt (HMR.out W hk)
    rw [HF.out.remF_zz (by have := HLL.out; omega), zz_st] at h
    exact h.mono (fun e w' h => h.ok))
  clear hr hp hq hg hn k2 hWr hrb huc
  go_wp2_with fail
  rw [← HWR.out, ← HRB.out]
  go_loopw [36] (fun i wr => ∃ k : Nat, i = .int .i64 k ∧ k ≤ n ∧ Kp Wr wr) (fun i _ => n - (intOf i).toNat)
  case atStart => exact ⟨0, rfl, Nat.zero_le _, Kp.refl _⟩
  case round =>
    obtain ⟨k, rfl, hk, hkp⟩ := hrel
    rename World => wr
    have HKW := Lib.hid hkp
    clear hkp
    by_cases hkn : k < n
    · obtain ⟨f, hf⟩ : ∃ f, fs[k]? = some f := ⟨_, List.getElem?_eq_getElem (by have := HN.out; omega)⟩
      have hltf := HLT.out f (List.mem_of_getElem? hf)
      have hsp := split_k hf
      obtain ⟨A, hA⟩ : ∃ A, A = fs.take k := ⟨_, rfl⟩
      obtain ⟨D, hD⟩ : ∃ D, D = fs.drop (k + 1) := ⟨_, rfl⟩
      rw [← hA, ← hD] at hsp
      have hfew : Few (A ++ f :: D) := by rw [← hsp]; exact HF.out
      obtain ⟨qb, off, hua, hcell⟩ := (HR.out.keep HKW.out).cell (by omega)
      obtain ⟨c0, c1⟩ := hcell k f hf
      obtain ⟨P, hP⟩ : ∃ P, P = st f.1 := ⟨_, rfl⟩
      obtain ⟨P2, hP2⟩ : ∃ P, P = st f.2 := ⟨_, rfl⟩
      have CM1 : Hid (∀ W u, Kp Wr W → Rw W u fs → Calls Tryz.prog 21 #[.agg #[u], .string P, .string ⟨#[122, 122, 47, 110, 101, 119]⟩] W (RvOk W (A ++ D ++ [(zzN, f.2)]))) := Lib.hid (fun W u hk hu => by
        rw [hsp] at hu
        have h := Move_any hu hltf.1 zz_lt (HMR.out W hk)
        rw [hfew.mov, zz_st, ← hP] at h
        exact h.mono (fun e w' h => h.ok))
      have CM2 : Hid (∀ W u, Kp Wr W → Rw W u (A ++ D ++ [(zzN, f.2)]) → Calls Tryz.prog 21 #[.agg #[u], .string ⟨#[122, 122, 47, 110, 101, 119]⟩, .string P] W (RvOk W fs)) := Lib.hid (fun W u hk hu => by
        have h := Move_any hu zz_lt hltf.1 (HMR.out W hk)
        rw [hfew.back, zz_st, ← hP, ← hsp] at h
        exact h.mono (fun e w' h => h.ok))
      have CR1 : Hid (∀ W u, Kp Wr W → Rw W u fs → Calls Tryz.prog 19 #[.agg #[u], .string P] W (RvOk W (A ++ D))) := Lib.hid (fun W u hk hu => by
        rw [hsp] at hu
        have h := Remove_any hu hltf.1 (HMR.out W hk)
        rw [hfew.remF_mid, ← hP] at h
        exact h.mono (fun e w' h => h.ok))
      have CR2 : Hid (∀ W u, Kp Wr W → Rw W u (fs ++ [(zzN, B)]) → Calls Tryz.prog 19 #[.agg #[u], .string P] W (RvOk W (A ++ D ++ [(zzN, B)]))) := Lib.hid (fun W u hk hu => by
        rw [hsp] at hu
        have h := Remove_any hu hltf.1 (HMR.out W hk)
        rw [hfew.remF_both (by have := HLL.out; omega), ← hP] at h
        exact h.mono (fun e w' h => h.ok))
      have HFR : Hid (Few (A ++ D)) := Lib.hid hfew.rem
      rw [← hP] at c0
      rw [← hP2] at c1
      subst hua
      have x0 := (RB.out.keep HKW.out).cell 0 rfl
      have hkI : (k : Int) < (n : Int) := by omega
      obtain ⟨fb, hfb⟩ : ∃ b, b = wr.heap.size := ⟨_, rfl⟩
      obtain ⟨W1, hW1⟩ : ∃ W, W = wr.alloc (.cells #[.string P, .string P2] 55) := ⟨_, rfl⟩
      have k1 : Kp wr W1 := by rw [hW1]; exact kp_alloc _ _
      have FB : Hid (Blk W1 fb 55 #[.string P, .string P2]) := Lib.hid (by rw [hW1, hfb]; exact Blk.new _ _ _)
      have K1 := Lib.hid (Kp.trans HKW.out k1)
      have HW1 := Lib.hid hW1; have HFB := Lib.hid hfb
      have x1 := (RB.out.keep K1.out).cell 0 rfl
      have p1 := FB.out.cell 0 rfl
      rw [hW1] at x1 p1
      rw [hfb] at p1
      clear hf hltf hsp hfew hcell hP hP2 hA hD k1 hW1 hfb
      go_wp2_with fail
      rw [← HW1.out, ← HFB.out]
      refine (CM1.out W1 _ K1.out (HR.out.keep K1.out)).mono ?_
      rintro e w2 ⟨a2, l2, c2, rfl, hr2, hn2, hk2⟩
      clear x0 c0 c1 x1 p1
      obtain ⟨yb3, hyb3⟩ : ∃ b, b = w2.heap.size := ⟨_, rfl⟩
      obtain ⟨W3, hW3⟩ : ∃ W, W = w2.alloc (.cells #[.slice a2 l2 c2] 28) := ⟨_, rfl⟩
      have kk3 : Kp w2 W3 := by rw [hW3]; exact kp_alloc _ _
      have YB3 : Hid (Blk W3 yb3 28 #[.slice a2 l2 c2]) := Lib.hid (by rw [hW3, hyb3]; exact Blk.new _ _ _)
      have M2 := Lib.hid hk2
      have HR3 := Lib.hid (hr2.keep kk3)
      have K3 := Lib.hid (Kp.trans K1.out (Kp.trans hk2 kk3))
      have HW3 := Lib.hid hW3; have HYB3 := Lib.hid hyb3
      have F3 : Hid (Kp W1 W3) := Lib.hid (Kp.trans hk2 kk3)
      have x3 := YB3.out.cell 0 rfl; have p3 := (FB.out.keep F3.out).cell 0 rfl
      rw [hW3] at x3 p3
      rw [hyb3] at x3
      clear hW3 hyb3 hr2 hn2 hk2 kk3
      go_wp2_with fail
      rw [← HW3.out, ← HYB3.out]
      refine (CM2.out W3 _ K3.out HR3.out).mono ?_
      rintro e w4 ⟨a4, l4, c4, rfl, hr4, hn4, hk4⟩
      clear x3 p3
      obtain ⟨yb5, hyb5⟩ : ∃ b, b = w4.heap.size := ⟨_, rfl⟩
      obtain ⟨W5, hW5⟩ : ∃ W, W = w4.alloc (.cells #[.slice a4 l4 c4] 28) := ⟨_, rfl⟩
      have kk5 : Kp w4 W5 := by rw [hW5]; exact kp_alloc _ _
      have YB5 : Hid (Blk W5 yb5 28 #[.slice a4 l4 c4]) := Lib.hid (by rw [hW5, hyb5]; exact Blk.new _ _ _)
      have M4 := Lib.hid hk4
      have HR5 := Lib.hid (hr4.keep kk5)
      have K5 := Lib.hid (Kp.trans K3.out (Kp.trans hk4 kk5))
      have HW5 := Lib.hid hW5; have HYB5 := Lib.hid hyb5
      have F5 : Hid (Kp W1 W5) := Lib.hid (Kp.trans F3.out (Kp.trans hk4 kk5))
      have x5 := (RB.out.keep K5.out).cell 0 rfl; have p5 := (FB.out.keep F5.out).cell 0 rfl
      rw [hW5] at x5 p5
      clear hW5 hyb5 hr4 hn4 hk4 kk5
      go_wp2_with fail
      rw [← HW5.out, ← HYB5.out]
      refine (CR1.out W5 _ K5.out (HR.out.keep K5.out)).mono ?_
      rintro e w6 ⟨a6, l6, c6, rfl, hr6, hn6, hk6⟩
      clear x5 p5
      obtain ⟨yb7, hyb7⟩ : ∃ b, b = w6.heap.size := ⟨_, rfl⟩
      obtain ⟨W7, hW7⟩ : ∃ W, W = w6.alloc (.cells #[.slice a6 l6 c6] 28) := ⟨_, rfl⟩
      have kk7 : Kp w6 W7 := by rw [hW7]; exact kp_alloc _ _
      have YB7 : Hid (Blk W7 yb7 28 #[.slice a6 l6 c6]) := Lib.hid (by rw [hW7, hyb7]; exact Blk.new _ _ _)
      have M6 := Lib.hid hk6
      have HR7 := Lib.hid (hr6.keep kk7)
      have K7 := Lib.hid (Kp.trans K5.out (Kp.trans hk6 kk7))
      have HW7 := Lib.hid hW7; have HYB7 := Lib.hid hyb7
      have F7 : Hid (Kp W1 W7) := Lib.hid (Kp.trans F5.out (Kp.trans hk6 kk7))
      have Y7 : Hid (Kp W5 W7) := Lib.hid (Kp.trans hk6 kk7)
      have x7 := YB7.out.cell 0 rfl
      rw [hW7] at x7
      rw [hyb7] at x7
      clear hW7 hyb7 hn6 hk6 kk7 hr6
      go_wp2_with fail
      rw [← HW7.out, ← HYB7.out]
      refine (CPZ.out W7 _ _ K7.out HFR.out HR7.out).mono ?_
      rintro e w8 ⟨a8, l8, c8, rfl, hr8, hn8, hk8⟩
      clear x7
      obtain ⟨W8, hW8⟩ : ∃ W, W = w8.setCell ⟨yb7, 0, none⟩ (.slice a8 l8 c8) := ⟨_, rfl⟩
      have o8 : Only yb7 w8 W8 := by rw [hW8]; exact (Only.refl yb7 w8).set 0 _
      have PB8 : Hid (Blk W8 yb7 28 #[.slice a8 l8 c8]) := Lib.hid (by rw [hW8]; exact (YB7.out.keep hk8).set 0 _)
      have HP8 : Hid (Rw W8 (.slice a8 l8 c8) (A ++ D ++ [(zzN, B)])) := Lib.hid (hr8.only o8 (fun b hb e => by have h1 := hn8 b hb; have h2 := YB7.out.lt; omega))
      have GE8 : Hid (W5.heap.size ≤ yb7) := Lib.hid (by have := M6.out.size; have := HYB7.out; omega)
      have Y8 : Hid (Kp W5 W8) := Lib.hid (Only.kp (Kp.trans Y7.out hk8) o8 GE8.out)
      have K8 : Hid (Kp Wr W8) := Lib.hid (Kp.trans K5.out Y8.out)
      have F8 : Hid (Kp W1 W8) := Lib.hid (Kp.trans F5.out Y8.out)
      have HW8 := Lib.hid hW8
      have ww := (YB7.out.keep hk8).cell 0 rfl; have wf := (YB7.out.keep hk8).free 0
      have x8 := (RB.out.keep K8.out).cell 0 rfl
      rw [hW8] at x8
      clear hW8 o8 hr8 hn8 hk8
      go_wp2_with fail
      rw [← HW8.out]
      refine (CPZ.out W8 _ _ K8.out HF.out (HR.out.keep K8.out)).mono ?_
      rintro e w9 ⟨a9, l9, c9, rfl, hr9, hn9, hk9⟩
      clear ww wf x8
      obtain ⟨yb10, hyb10⟩ : ∃ b, b = w9.heap.size := ⟨_, rfl⟩
      obtain ⟨W10, hW10⟩ : ∃ W, W = w9.alloc (.cells #[.slice a9 l9 c9] 28) := ⟨_, rfl⟩
      have kk10 : Kp w9 W10 := by rw [hW10]; exact kp_alloc _ _
      have YB10 : Hid (Blk W10 yb10 28 #[.slice a9 l9 c9]) := Lib.hid (by rw [hW10, hyb10]; exact Blk.new _ _ _)
      have M9 := Lib.hid hk9
      have HR10 := Lib.hid (hr9.keep kk10)
      have K10 := Lib.hid (Kp.trans K8.out (Kp.trans hk9 kk10))
      have HW10 := Lib.hid hW10; have HYB10 := Lib.hid hyb10
      have F10 : Hid (Kp W1 W10) := Lib.hid (Kp.trans F8.out (Kp.trans hk9 kk10))
      have Y10 : Hid (Kp W5 W10) := Lib.hid (Kp.trans Y8.out (Kp.trans hk9 kk10))
      have P10 : Hid (Kp W8 W10) := Lib.hid (Kp.trans hk9 kk10)
      have x10 := YB10.out.cell 0 rfl; have p10 := (FB.out.keep F10.out).cell 0 rfl
      rw [hW10] at x10 p10
      rw [hyb10] at x10
      clear hW10 hyb10 hn9 hk9 kk10 hr9
      go_wp2_with fail
      rw [← HW10.out, ← HYB10.out]
      refine (CR2.out W10 _ K10.out HR10.out).mono ?_
      rintro e w11 ⟨a11, l11, c11, rfl, hr11, hn11, hk11⟩
      clear x10 p10
      obtain ⟨W11, hW11⟩ : ∃ W, W = w11.setCell ⟨yb10, 0, none⟩ (.slice a11 l11 c11) := ⟨_, rfl⟩
      have o11 : Only yb10 w11 W11 := by rw [hW11]; exact (Only.refl yb10 w11).set 0 _
      have QB11 : Hid (Blk W11 yb10 28 #[.slice a11 l11 c11]) := Lib.hid (by rw [hW11]; exact (YB10.out.keep hk11).set 0 _)
      have HQ11 : Hid (Rw W11 (.slice a11 l11 c11) (A ++ D ++ [(zzN, B)])) := Lib.hid (hr11.only o11 (fun b hb e => by have h1 := hn11 b hb; have h2 := YB10.out.lt; omega))
      have GE11 : Hid (W8.heap.size ≤ yb10) := Lib.hid (by have := M9.out.size; have := HYB10.out; omega)
      have P11 : Hid (Kp W8 W11) := Lib.hid (Only.kp (Kp.trans P10.out hk11) o11 GE11.out)
      have Y11 : Hid (Kp W5 W11) := Lib.hid (Kp.trans Y8.out P11.out)
      have K11 : Hid (Kp Wr W11) := Lib.hid (Kp.trans K8.out P11.out)
      have HW11 := Lib.hid hW11
      have ww := (YB10.out.keep hk11).cell 0 rfl; have wf := (YB10.out.keep hk11).free 0
      have x11 := (RB.out.keep K11.out).cell 0 rfl; have y11 := (YB5.out.keep Y11.out).cell 0 rfl
      rw [hW11] at x11 y11
      clear hW11 o11 hr11 hn11 hk11
      go_wp2_with fail
      rw [← HW11.out]
      refine (CSAME.out W11 _ _ _ (HR.out.keep K11.out) (HR5.out.keep Y11.out)).mono ?_
      rintro e w12 ⟨rfl, hk12⟩
      have K12 := Lib.hid (Kp.trans K11.out hk12)
      have p12 := (PB8.out.keep (Kp.trans P11.out hk12)).cell 0 rfl; have q12 := (QB11.out.keep hk12).cell 0 rfl
      have HP12 := Lib.hid (HP8.out.keep (Kp.trans P11.out hk12)); have HQ12 := Lib.hid (HQ11.out.keep hk12)
      clear ww wf x11 y11 hk12
      go_wp2_with fail
      refine (CSAME.out w12 _ _ _ HP12.out HQ12.out).mono ?_
      rintro e w13 ⟨rfl, hk13⟩
      have K13 := Lib.hid (Kp.trans K12.out hk13)
      clear p12 q12 hk13
      go_wp2_with fail
      go_roundw
      case rel => exact ⟨k + 1, by go_num, by omega, K13.out⟩
      case measure => simp [intOf]; omega
    · have x0 := (RB.out.keep HKW.out).cell 0 rfl
      have hkI : (n : Int) ≤ (k : Int) := by omega
      go_wp2_with fail
      refine (CPZ.out wr _ _ HKW.out HF.out (HR.out.keep HKW.out)).mono ?_
      rintro e w2 ⟨a2, l2, c2, rfl, hr2, hn2, hk2⟩
      obtain ⟨W3, hW3⟩ : ∃ W, W = w2.alloc (.cells #[.slice a2 l2 c2] 28) := ⟨_, rfl⟩
      have k3 : Kp w2 W3 := by rw [hW3]; exact kp_alloc _ _
      have K3 := Lib.hid (Kp.trans HKW.out (Kp.trans hk2 k3))
      have HX3 := Lib.hid (hr2.keep k3)
      have HW3 := Lib.hid hW3
      have x3 : W3.cell? ⟨w2.heap.size, 0, none⟩ = some (.slice a2 l2 c2) := by rw [hW3]; exact (Blk.new _ _ _).cell 0 rfl
      rw [hW3] at x3
      clear x0 hr2 hn2 hk2 k3 hW3
      go_wp2_with fail
      rw [← HW3.out]
      refine (CRZ.out W3 _ K3.out HX3.out).mono ?_
      rintro e w4 ⟨a4, l4, c4, rfl, hr4, hn4, hk4⟩
      obtain ⟨W5, hW5⟩ : ∃ W, W = w4.alloc (.cells #[.slice a4 l4 c4] 28) := ⟨_, rfl⟩
      have k5 : Kp w4 W5 := by rw [hW5]; exact kp_alloc _ _
      have K5 := Lib.hid (Kp.trans K3.out (Kp.trans hk4 k5))
      have HX5 := Lib.hid (hr4.keep k5)
      have HW5 := Lib.hid hW5
      have x5 : W5.cell? ⟨w4.heap.size, 0, none⟩ = some (.slice a4 l4 c4) := by rw [hW5]; exact (Blk.new _ _ _).cell 0 rfl
      have r5 := (RB.out.keep K5.out).cell 0 rfl
      rw [hW5] at x5 r5
      clear x3 hr4 hn4 hk4 k5 hW5
      go_wp2_with fail
      rw [← HW5.out]
      refine (CSAME.out W5 _ _ _ (HR.out.keep K5.out) HX5.out).mono ?_
      rintro e w6 ⟨rfl, hk6⟩
      have K6 := Lib.hid (Kp.trans K5.out hk6)
      clear x5 r5 hk6
      go_wp2_with fail
      refine (CA.out w6 K6.out).mono ?_
      rintro e w7 ⟨rfl, hk7⟩
      have K7 := Lib.hid (Kp.trans K6.out hk7)
      clear hk7
      go_wp2_with fail
      go_ret
      exact ⟨rfl, Kp.trans HKR.out K7.out⟩

set_option maxRecDepth 100000 in
set_option maxHeartbeats 16000000 in
theorem revMoves_long {zs : List Int} {v : Value} {b : List Nat} {w : World} (hz : SlI w v zs) (hb : Lt b) (hbl : 100 < b.length) (hm : MX w) :
    Calls Tryz.prog 6 #[v, .string (st b)] w fun e w' => e = .returned (.bool true) ∧ Kp w w' := by
  have hz' := hz
  obtain ⟨⟨ao, cap, rfl, hc, hmx, hat⟩, hlt, hsm⟩ := hz
  obtain ⟨len0, hlen⟩ : ∃ len, len = zs.length := ⟨_, rfl⟩
  rw [← hlen] at hz' ⊢
  obtain ⟨w1, hw1⟩ : ∃ w1, w1 = w.alloc (Obj.cells #[.slice ao len0 cap, .int .i64 0] 25) := ⟨_, rfl⟩
  have htp : Tp w w1 w.heap.size 0 := by
    rw [hw1]
    exact ⟨⟨ao, len0, cap, zs, hz', Blk.new _ _ _⟩, Kp.alloc (Kp.refl _) _, Nat.le_refl _⟩
  have HRV := Lib.hid (Revision_q (n := 0) ⟨0, by omega, htp⟩)
  have HM1 : Hid (MX w1) := Lib.hid (hm.keep htp.kp)
  have HW1 := Lib.hid hw1; have HM := Lib.hid hm
  obtain ⟨bl, hbl0⟩ : ∃ bl, bl = b.length := ⟨_, rfl⟩
  have qs : ∀ w, (Builtin.len_ #[9] 3 #[.string (st b)]).run Tryz.prog w = .ok (goInt bl) w := fun w => by rw [hbl0]; exact len w
  rw [← hbl0] at hbl

  have i1 : (100 : Int) < (bl : Int) := by omega
  obtain ⟨B, hB⟩ : ∃ B, B = b.take 100 := ⟨_, rfl⟩
  have hLB : Lt B := by rw [hB]; exact hb.take 100
  have hLL : B.length ≤ 100 := by rw [hB, List.length_take]; omega
  obtain ⟨S, hS⟩ : ∃ S, S = st B := ⟨_, rfl⟩
  have HS : Hid (st B = S) := Lib.hid hS.symm
  have qc : ∀ w, (Instr.slice 9 (.string (st b)) none (some (.int .i64 100)) none).run Tryz.prog w = .ok (.string S) w := fun w => by
    rw [hS, hB]
    exact cut_to (j := 100) (by omega) w
  obtain ⟨S0, hS0⟩ : ∃ S, S = st b := ⟨_, rfl⟩
  rw [← hS0] at qs qc ⊢
  clear hS hB hS0

  have HLB := Lib.hid hLB; have HLL := Lib.hid hLL
  clear hz' hc hmx hat hlt hsm hlen hw1 htp hm hLB hLL hb hbl hbl0
  go_enter Tryz.func6, Tryz.ntmps6
  go_wp2_with fail
  rw [← HW1.out]
  refine HRV.out.mono ?_
  rintro e w2 ⟨⟨u, fs, rfl, hr, hp⟩, hq, hg⟩
  have HK2 : Hid (Kp w w2) := Lib.hid hq.base
  have HF : Hid (Few fs) := Lib.hid (hp.few (by omega))
  obtain ⟨ua, uc, hu, huc, -, -⟩ := hr.open3
  obtain ⟨n, hn⟩ : ∃ n, n = fs.length := ⟨_, rfl⟩
  rw [← hn] at hu huc
  subst hu
  have HN := Lib.hid hn
  obtain ⟨rb, hrb⟩ : ∃ b, b = w2.heap.size := ⟨_, rfl⟩
  obtain ⟨Wr, hWr⟩ : ∃ W, W = w2.alloc (.cells #[.slice ua n uc] 28) := ⟨_, rfl⟩
  have k2 : Kp w2 Wr := by rw [hWr]; exact kp_alloc _ _
  have HKR : Hid (Kp w Wr) := Lib.hid (Kp.trans HK2.out k2)
  have RB : Hid (Blk Wr rb 28 #[.slice ua n uc]) := Lib.hid (by rw [hWr, hrb]; exact Blk.new _ _ _)
  have HR : Hid (Rw Wr (.slice ua n uc) fs) := Lib.hid (hr.keep k2)
  have HMR : Hid (∀ W, Kp Wr W → MX W) := Lib.hid (fun W hk => HM.out.keep (Kp.trans HKR.out hk))
  have HWR := Lib.hid hWr; have HRB := Lib.hid hrb
  have HLT : Hid (∀ f ∈ fs, Lt f.1 ∧ Lt f.2) := Lib.hid hr.lt
  have hn20 : n ≤ 20 := by rw [hn]; exact HF.out.len
  have hucI : (n : Int) ≤ (uc : Int) := by omega
  have x0 := RB.out.cell 0 rfl
  rw [hWr, hrb] at x0
  have CSAME : Hid (∀ W x y gs, Rw W x gs → Rw W y gs → Calls Tryz.prog 11 #[.agg #[x], .agg #[y]] W fun e w' => e = .returned (.bool true) ∧ Kp W w') := Lib.hid (fun W x y gs h1 h2 => by
    have h := rSame_any h1 h2
    rw [decide_eq_true rfl] at h
    exact h)
  have CA : Hid (∀ W, Kp Wr W → Calls Tryz.prog 23 #[] W fun e w' => e = .returned (.bool true) ∧ Kp W w') := Lib.hid (fun W hk => rvAwake_any (HMR.out W hk))
  have CPZ : Hid (∀ W u gs, Kp Wr W → Few gs → Rw W u gs → Calls Tryz.prog 17 #[.agg #[u], .string ⟨#[122, 122, 47, 110, 101, 119]⟩, .string S] W (RvOk W (gs ++ [(zzN, B)]))) := Lib.hid (fun W u gs hk hf hu => by
    have h := Put_any hu zz_lt HLB.out (HMR.out W hk)
    rw [hf.putF_zz (by have := HLL.out; omega), zz_st, HS.out] at h
    exact h.mono (fun e w' h => h.ok))
  have CRZ : Hid (∀ W u, Kp Wr W → Rw W u (fs ++ [(zzN, B)]) → Calls Tryz.prog 19 #[.agg #[u], .string ⟨#[122, 122, 47, 110, 101, 119]⟩] W (RvOk W fs)) := Lib.hid (fun W u hk hu => by
    have h := Remove_any hu zz_lt (HMR.out W hk)
    rw [HF.out.remF_zz (by have := HLL.out; omega), zz_st] at h
    exact h.mono (fun e w' h => h.ok))
  clear hr hp hq hg hn k2 hWr hrb huc
  go_wp2_with fail
  rw [← HWR.out, ← HRB.out]
  go_loopw [36] (fun i wr => ∃ k : Nat, i = .int .i64 k ∧ k ≤ n ∧ Kp Wr wr) (fun i _ => n - (intOf i).toNat)
  case atStart => exact ⟨0, rfl, Nat.zero_le _, Kp.refl _⟩
  case round =>
    obtain ⟨k, rfl, hk, hkp⟩ := hrel
    rename World => wr
    have HKW := Lib.hid hkp
    clear hkp
    by_cases hkn : k < n
    · obtain ⟨f, hf⟩ : ∃ f, fs[k]? = some f := ⟨_, List.getElem?_eq_getElem (by have := HN.out; omega)⟩
      have hltf := HLT.out f (List.mem_of_getElem? hf)
      have hsp := split_k hf
      obtain ⟨A, hA⟩ : ∃ A, A = fs.take k := ⟨_, rfl⟩
      obtain ⟨D, hD⟩ : ∃ D, D = fs.drop (k + 1) := ⟨_, rfl⟩
      rw [← hA, ← hD] at hsp
      have hfew : Few (A ++ f :: D) := by rw [← hsp]; exact HF.out
      obtain ⟨qb, off, hua, hcell⟩ := (HR.out.keep HKW.out).cell (by omega)
      obtain ⟨c0, c1⟩ := hcell k f hf
      obtain ⟨P, hP⟩ : ∃ P, P = st f.1 := ⟨_, rfl⟩
      obtain ⟨P2, hP2⟩ : ∃ P, P = st f.2 := ⟨_, rfl⟩
      have CM1 : Hid (∀ W u, Kp Wr W → Rw W u fs → Calls Tryz.prog 21 #[.agg #[u], .string P, .string ⟨#[122, 122, 47, 110, 101, 119]⟩] W (RvOk W (A ++ D ++ [(zzN, f.2)]))) := Lib.hid (fun W u hk hu => by
        rw [hsp] at hu
        have h := Move_any hu hltf.1 zz_lt (HMR.out W hk)
        rw [hfew.mov, zz_st, ← hP] at h
        exact h.mono (fun e w' h => h.ok))
      have CM2 : Hid (∀ W u, Kp Wr W → Rw W u (A ++ D ++ [(zzN, f.2)]) → Calls Tryz.prog 21 #[.agg #[u], .string ⟨#[122, 122, 47, 110, 101, 119]⟩, .string P] W (RvOk W fs)) := Lib.hid (fun W u hk hu => by
        have h := Move_any hu zz_lt hltf.1 (HMR.out W hk)
        rw [hfew.back, zz_st, ← hP, ← hsp] at h
        exact h.mono (fun e w' h => h.ok))
      have CR1 : Hid (∀ W u, Kp Wr W → Rw W u fs → Calls Tryz.prog 19 #[.agg #[u], .string P] W (RvOk W (A ++ D))) := Lib.hid (fun W u hk hu => by
        rw [hsp] at hu
        have h := Remove_any hu hltf.1 (HMR.out W hk)
        rw [hfew.remF_mid, ← hP] at h
        exact h.mono (fun e w' h => h.ok))
      have CR2 : Hid (∀ W u, Kp Wr W → Rw W u (fs ++ [(zzN, B)]) → Calls Tryz.prog 19 #[.agg #[u], .string P] W (RvOk W (A ++ D ++ [(zzN, B)]))) := Lib.hid (fun W u hk hu => by
        rw [hsp] at hu
        have h := Remove_any hu hltf.1 (HMR.out W hk)
        rw [hfew.remF_both (by have := HLL.out; omega), ← hP] at h
        exact h.mono (fun e w' h => h.ok))
      have HFR : Hid (Few (A ++ D)) := Lib.hid hfew.rem
      rw [← hP] at c0
      rw [← hP2] at c1
      subst hua
      have x0 := (RB.out.keep HKW.out).cell 0 rfl
      have hkI : (k : Int) < (n : Int) := by omega
      obtain ⟨fb, hfb⟩ : ∃ b, b = wr.heap.size := ⟨_, rfl⟩
      obtain ⟨W1, hW1⟩ : ∃ W, W = wr.alloc (.cells #[.string P, .string P2] 55) := ⟨_, rfl⟩
      have k1 : Kp wr W1 := by rw [hW1]; exact kp_alloc _ _
      have FB : Hid (Blk W1 fb 55 #[.string P, .string P2]) := Lib.hid (by rw [hW1, hfb]; exact Blk.new _ _ _)
      have K1 := Lib.hid (Kp.trans HKW.out k1)
      have HW1 := Lib.hid hW1; have HFB := Lib.hid hfb
      have x1 := (RB.out.keep K1.out).cell 0 rfl
      have p1 := FB.out.cell 0 rfl
      rw [hW1] at x1 p1
      rw [hfb] at p1
      clear hf hltf hsp hfew hcell hP hP2 hA hD k1 hW1 hfb
      go_wp2_with fail
      rw [← HW1.out, ← HFB.out]
      refine (CM1.out W1 _ K1.out (HR.out.keep K1.out)).mono ?_
      rintro e w2 ⟨a2, l2, c2, rfl, hr2, hn2, hk2⟩
      clear x0 c0 c1 x1 p1
      obtain ⟨yb3, hyb3⟩ : ∃ b, b = w2.heap.size := ⟨_, rfl⟩
      obtain ⟨W3, hW3⟩ : ∃ W, W = w2.alloc (.cells #[.slice a2 l2 c2] 28) := ⟨_, rfl⟩
      have kk3 : Kp w2 W3 := by rw [hW3]; exact kp_alloc _ _
      have YB3 : Hid (Blk W3 yb3 28 #[.slice a2 l2 c2]) := Lib.hid (by rw [hW3, hyb3]; exact Blk.new _ _ _)
      have M2 := Lib.hid hk2
      have HR3 := Lib.hid (hr2.keep kk3)
      have K3 := Lib.hid (Kp.trans K1.out (Kp.trans hk2 kk3))
      have HW3 := Lib.hid hW3; have HYB3 := Lib.hid hyb3
      have F3 : Hid (Kp W1 W3) := Lib.hid (Kp.trans hk2 kk3)
      have x3 := YB3.out.cell 0 rfl; have p3 := (FB.out.keep F3.out).cell 0 rfl
      rw [hW3] at x3 p3
      rw [hyb3] at x3
      clear hW3 hyb3 hr2 hn2 hk2 kk3
      go_wp2_with fail
      rw [← HW3.out, ← HYB3.out]
      refine (CM2.out W3 _ K3.out HR3.out).mono ?_
      rintro e w4 ⟨a4, l4, c4, rfl, hr4, hn4, hk4⟩
      clear x3 p3
      obtain ⟨yb5, hyb5⟩ : ∃ b, b = w4.heap.size := ⟨_, rfl⟩
      obtain ⟨W5, hW5⟩ : ∃ W, W = w4.alloc (.cells #[.slice a4 l4 c4] 28) := ⟨_, rfl⟩
      have kk5 : Kp w4 W5 := by rw [hW5]; exact kp_alloc _ _
      have YB5 : Hid (Blk W5 yb5 28 #[.slice a4 l4 c4]) := Lib.hid (by rw [hW5, hyb5]; exact Blk.new _ _ _)
      have M4 := Lib.hid hk4
      have HR5 := Lib.hid (hr4.keep kk5)
      have K5 := Lib.hid (Kp.trans K3.out (Kp.trans hk4 kk5))
      have HW5 := Lib.hid hW5; have HYB5 := Lib.hid hyb5
      have F5 : Hid (Kp W1 W5) := Lib.hid (Kp.trans F3.out (Kp.trans hk4 kk5))
      have x5 := (RB.out.keep K5.out).cell 0 rfl; have p5 := (FB.out.keep F5.out).cell 0 rfl
      rw [hW5] at x5 p5
      clear hW5 hyb5 hr4 hn4 hk4 kk5
      go_wp2_with fail
      rw [← HW5.out, ← HYB5.out]
      refine (CR1.out W5 _ K5.out (HR.out.keep K5.out)).mono ?_
      rintro e w6 ⟨a6, l6, c6, rfl, hr6, hn6, hk6⟩
      clear x5 p5
      obtain ⟨yb7, hyb7⟩ : ∃ b, b = w6.heap.size := ⟨_, rfl⟩
      obtain ⟨W7, hW7⟩ : ∃ W, W = w6.alloc (.cells #[.slice a6 l6 c6] 28) := ⟨_, rfl⟩
      have kk7 : Kp w6 W7 := by rw [hW7]; exact kp_alloc _ _
      have YB7 : Hid (Blk W7 yb7 28 #[.slice a6 l6 c6]) := Lib.hid (by rw [hW7, hyb7]; exact Blk.new _ _ _)
      have M6 := Lib.hid hk6
      have HR7 := Lib.hid (hr6.keep kk7)
      have K7 := Lib.hid (Kp.trans K5.out (Kp.trans hk6 kk7))
      have HW7 := Lib.hid hW7; have HYB7 := Lib.hid hyb7
      have F7 : Hid (Kp W1 W7) := Lib.hid (Kp.trans F5.out (Kp.trans hk6 kk7))
      have Y7 : Hid (Kp W5 W7) := Lib.hid (Kp.trans hk6 kk7)
      have x7 := YB7.out.cell 0 rfl
      rw [hW7] at x7
      rw [hyb7] at x7
      clear hW7 hyb7 hn6 hk6 kk7 hr6
      go_wp2_with fail
      rw [← HW7.out, ← HYB7.out]
      refine (CPZ.out W7 _ _ K7.out HFR.out HR7.out).mono ?_
      rintro e w8 ⟨a8, l8, c8, rfl, hr8, hn8, hk8⟩
      clear x7
      obtain ⟨W8, hW8⟩ : ∃ W, W = w8.setCell ⟨yb7, 0, none⟩ (.slice a8 l8 c8) := ⟨_, rfl⟩
      have o8 : Only yb7 w8 W8 := by rw [hW8]; exact (Only.refl yb7 w8).set 0 _
      have PB8 : Hid (Blk W8 yb7 28 #[.slice a8 l8 c8]) := Lib.hid (by rw [hW8]; exact (YB7.out.keep hk8).set 0 _)
      have HP8 : Hid (Rw W8 (.slice a8 l8 c8) (A ++ D ++ [(zzN, B)])) := Lib.hid (hr8.only o8 (fun b hb e => by have h1 := hn8 b hb; have h2 := YB7.out.lt; omega))
      have GE8 : Hid (W5.heap.size ≤ yb7) := Lib.hid (by have := M6.out.size; have := HYB7.out; omega)
      have Y8 : Hid (Kp W5 W8) := Lib.hid (Only.kp (Kp.trans Y7.out hk8) o8 GE8.out)
      have K8 : Hid (Kp Wr W8) := Lib.hid (Kp.trans K5.out Y8.out)
      have F8 : Hid (Kp W1 W8) := Lib.hid (Kp.trans F5.out Y8.out)
      have HW8 := Lib.hid hW8
      have ww := (YB7.out.keep hk8).cell 0 rfl; have wf := (YB7.out.keep hk8).free 0
      have x8 := (RB.out.keep K8.out).cell 0 rfl
      rw [hW8] at x8
      clear hW8 o8 hr8 hn8 hk8
      go_wp2_with fail
      rw [← HW8.out]
      refine (CPZ.out W8 _ _ K8.out HF.out (HR.out.keep K8.out)).mono ?_
      rintro e w9 ⟨a9, l9, c9, rfl, hr9, hn9, hk9⟩
      clear ww wf x8
      obtain ⟨yb10, hyb10⟩ : ∃ b, b = w9.heap.size := ⟨_, rfl⟩
      obtain ⟨W10, hW10⟩ : ∃ W, W = w9.alloc (.cells #[.slice a9 l9 c9] 28) := ⟨_, rfl⟩
      have kk10 : Kp w9 W10 := by rw [hW10]; exact kp_alloc _ _
      have YB10 : Hid (Blk W10 yb10 28 #[.slice a9 l9 c9]) := Lib.hid (by rw [hW10, hyb10]; exact Blk.new _ _ _)
      have M9 := Lib.hid hk9
      have HR10 := Lib.hid (hr9.keep kk10)
      have K10 := Lib.hid (Kp.trans K8.out (Kp.trans hk9 kk10))
      have HW10 := Lib.hid hW10; have HYB10 := Lib.hid hyb10
      have F10 : Hid (Kp W1 W10) := Lib.hid (Kp.trans F8.out (Kp.trans hk9 kk10))
      have Y10 : Hid (Kp W5 W10) := Lib.hid (Kp.trans Y8.out (Kp.trans hk9 kk10))
      have P10 : Hid (Kp W8 W10) := Lib.hid (Kp.trans hk9 kk10)
      have x10 := YB10.out.cell 0 rfl; have p10 := (FB.out.keep F10.out).cell 0 rfl
      rw [hW10] at x10 p10
      rw [hyb10] at x10
      clear hW10 hyb10 hn9 hk9 kk10 hr9
      go_wp2_with fail
      rw [← HW10.out, ← HYB10.out]
      refine (CR2.out W10 _ K10.out HR10.out).mono ?_
      rintro e w11 ⟨a11, l11, c11, rfl, hr11, hn11, hk11⟩
      clear x10 p10
      obtain ⟨W11, hW11⟩ : ∃ W, W = w11.setCell ⟨yb10, 0, none⟩ (.slice a11 l11 c11) := ⟨_, rfl⟩
      have o11 : Only yb10 w11 W11 := by rw [hW11]; exact (Only.refl yb10 w11).set 0 _
      have QB11 : Hid (Blk W11 yb10 28 #[.slice a11 l11 c11]) := Lib.hid (by rw [hW11]; exact (YB10.out.keep hk11).set 0 _)
      have HQ11 : Hid (Rw W11 (.slice a11 l11 c11) (A ++ D ++ [(zzN, B)])) := Lib.hid (hr11.only o11 (fun b hb e => by have h1 := hn11 b hb; have h2 := YB10.out.lt; omega))
      have GE11 : Hid (W8.heap.size ≤ yb10) := Lib.hid (by have := M9.out.size; have := HYB10.out; omega)
      have P11 : Hid (Kp W8 W11) := Lib.hid (Only.kp (Kp.trans P10.out hk11) o11 GE11.out)
      have Y11 : Hid (Kp W5 W11) := Lib.hid (Kp.trans Y8.out P11.out)
      have K11 : Hid (Kp Wr W11) := Lib.hid (Kp.trans K8.out P11.out)
      have HW11 := Lib.hid hW11
      have ww := (YB10.out.keep hk11).cell 0 rfl; have wf := (YB10.out.keep hk11).free 0
      have x11 := (RB.out.keep K11.out).cell 0 rfl; have y11 := (YB5.out.keep Y11.out).cell 0 rfl
      rw [hW11] at x11 y11
      clear hW11 o11 hr11 hn11 hk11
      go_wp2_with fail
      rw [← HW11.out]
      refine (CSAME.out W11 _ _ _ (HR.out.keep K11.out) (HR5.out.keep Y11.out)).mono ?_
      rintro e w12 ⟨rfl, hk12⟩
      have K12 := Lib.hid (Kp.trans K11.out hk12)
      have p12 := (PB8.out.keep (Kp.trans P11.out hk12)).cell 0 rfl; have q12 := (QB11.out.keep hk12).cell 0 rfl
      have HP12 := Lib.hid (HP8.out.keep (Kp.trans P11.out hk12)); have HQ12 := Lib.hid (HQ11.out.keep hk12)
      clear ww wf x11 y11 hk12
      go_wp2_with fail
      refine (CSAME.out w12 _ _ _ HP12.out HQ12.out).mono ?_
      rintro e w13 ⟨rfl, hk13⟩
      have K13 := Lib.hid (Kp.trans K12.out hk13)
      clear p12 q12 hk13
      go_wp2_with fail
      go_roundw
      case rel => exact ⟨k + 1, by go_num, by omega, K13.out⟩
      case measure => simp [intOf]; omega
    · have x0 := (RB.out.keep HKW.out).cell 0 rfl
      have hkI : (n : Int) ≤ (k : Int) := by omega
      go_wp2_with fail
      refine (CPZ.out wr _ _ HKW.out HF.out (HR.out.keep HKW.out)).mono ?_
      rintro e w2 ⟨a2, l2, c2, rfl, hr2, hn2, hk2⟩
      obtain ⟨W3, hW3⟩ : ∃ W, W = w2.alloc (.cells #[.slice a2 l2 c2] 28) := ⟨_, rfl⟩
      have k3 : Kp w2 W3 := by rw [hW3]; exact kp_alloc _ _
      have K3 := Lib.hid (Kp.trans HKW.out (Kp.trans hk2 k3))
      have HX3 := Lib.hid (hr2.keep k3)
      have HW3 := Lib.hid hW3
      have x3 : W3.cell? ⟨w2.heap.size, 0, none⟩ = some (.slice a2 l2 c2) := by rw [hW3]; exact (Blk.new _ _ _).cell 0 rfl
      rw [hW3] at x3
      clear x0 hr2 hn2 hk2 k3 hW3
      go_wp2_with fail
      rw [← HW3.out]
      refine (CRZ.out W3 _ K3.out HX3.out).mono ?_
      rintro e w4 ⟨a4, l4, c4, rfl, hr4, hn4, hk4⟩
      obtain ⟨W5, hW5⟩ : ∃ W, W = w4.alloc (.cells #[.slice a4 l4 c4] 28) := ⟨_, rfl⟩
      have k5 : Kp w4 W5 := by rw [hW5]; exact kp_alloc _ _
      have K5 := Lib.hid (Kp.trans K3.out (Kp.trans hk4 k5))
      have HX5 := Lib.hid (hr4.keep k5)
      have HW5 := Lib.hid hW5
      have x5 : W5.cell? ⟨w4.heap.size, 0, none⟩ = some (.slice a4 l4 c4) := by rw [hW5]; exact (Blk.new _ _ _).cell 0 rfl
      have r5 := (RB.out.keep K5.out).cell 0 rfl
      rw [hW5] at x5 r5
      clear x3 hr4 hn4 hk4 k5 hW5
      go_wp2_with fail
      rw [← HW5.out]
      refine (CSAME.out W5 _ _ _ (HR.out.keep K5.out) HX5.out).mono ?_
      rintro e w6 ⟨rfl, hk6⟩
      have K6 := Lib.hid (Kp.trans K5.out hk6)
      clear x5 r5 hk6
      go_wp2_with fail
      refine (CA.out w6 K6.out).mono ?_
      rintro e w7 ⟨rfl, hk7⟩
      have K7 := Lib.hid (Kp.trans K6.out hk7)
      clear hk7
      go_wp2_with fail
      go_ret
      exact ⟨rfl, Kp.trans HKR.out K7.out⟩

theorem revMoves_any {zs : List Int} {v : Value} {b : List Nat} {w : World} (hz : SlI w v zs) (hb : Lt b) (hm : MX w) :
    Calls Tryz.prog 6 #[v, .string (st b)] w fun e w' => e = .returned (.bool true) ∧ Kp w w' := by
  by_cases h : b.length ≤ 100
  · exact revMoves_short hz hb h hm
  · exact revMoves_long hz hb (by omega) hm
theorem revMoves_row {w : World} (hm : MX w) {v : Value} {zs : List Int} (hs : SlI w v zs) (s : ByteArray) (hz : s.size ≤ 140737488351232) : Calls Tryz.prog 6 #[v, .string s] w fun e w' => e = .returned (.bool true) ∧ Kp w w' := by
  have h := revMoves_any (b := bs s) hs (bs_lt s) hm
  rw [st_bs] at h
  exact h
end By
end Go.Proofs.YtmkijkaabcgcbaaGreatDoor
