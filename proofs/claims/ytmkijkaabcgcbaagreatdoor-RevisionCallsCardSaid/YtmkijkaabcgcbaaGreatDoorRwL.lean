/- The law on the calls of revisions in which something may be wrong: it returns true, and leaves what was there. Conditions: the slice reads as the integers that are named; a package variable of the library holds some integer. -/
import Derived.Test.YtmkijkaabcgcbaaGreatDoorMRw
import Derived.Test.YtmkijkaabcgcbaaGreatDoorSpB
import Derived.Test.YtmkijkaabcgcbaaGreatDoorMRs
namespace Go.Proofs.YtmkijkaabcgcbaaGreatDoor
namespace By
open Go.RowKit Go.Shelf WireN LexN RevN
set_option linter.unusedVariables false
set_option linter.unusedSimpArgs false

/-- One of a few strings of any lengths. -/
theorem One_z {w0 w : World} {g n b m : Nat} {ss : List ByteArray} (ht : Tq w0 w g (n + 1)) (hb : b ≠ g) (hc : ∀ (i : Nat) (s : ByteArray), ss[i]? = some s → w.cell? ⟨b, i, none⟩ = some (.string s)) (hm : m = ss.length) (h1 : 1 ≤ m) (h10 : m ≤ 10) :
    Calls Tryz.prog 12 #[.pointer (some ⟨g, 0, none⟩), .slice (some ⟨b, 0, none⟩) m m] w fun e w' => (∃ s : ByteArray, e = .returned (.string s) ∧ s ∈ ss) ∧ Tq w0 w' g n ∧ Gr g w w' := by
  have HC := Lib.hid (Next_q ht m h1 (by omega))
  have HX := Lib.hid hc; have HB := Lib.hid hb; have HM := Lib.hid hm
  have q0 : ((m : Int) == 0) = false := beq_eq_false_iff_ne.2 (by omega)
  clear ht hc hm h1 h10 hb
  go_enter Tryz.func12, Tryz.ntmps12
  go_wp2_with fail
  refine HC.out.mono ?_
  rintro e w1 ⟨⟨r, hr, rfl⟩, hq, hg⟩
  obtain ⟨s, hs⟩ : ∃ s, ss[r]? = some s := ⟨_, List.getElem?_eq_getElem (by have := HM.out; omega)⟩
  have c0 := cell_gr hg (HX.out r s hs) HB.out
  have hri : (r : Int) < (m : Int) := by omega
  have HQ := Lib.hid hq; have HG := Lib.hid hg; have HSS := Lib.hid hs
  clear hq hg hs
  go_wp2_with fail
  go_ret
  exact ⟨⟨s, rfl, List.mem_of_getElem? HSS.out⟩, HQ.out, HG.out⟩
/-- A revision and an error, in memory that is new. -/
def RvX (W : World) (E : Nat) (gs : List Fl) (e : Ending) (w' : World) : Prop :=
  ∃ a l c, e = .returned (.tuple #[.agg #[.slice a l c], .int .i64 (E : Nat)]) ∧ Rw w' (.slice a l c) gs ∧ Kp W w'
theorem RevR.x {W : World} {r : Nat × List Fl} {E : Nat} {gs : List Fl} {e : Ending} {w' : World} (h : RevR W r e w') (hr : r = (E, gs)) : RvX W E gs e w' := by
  subst hr
  obtain ⟨v, h1, h2, h3, h4⟩ := h
  obtain ⟨a, l, c, rfl⟩ := h2.form
  exact ⟨a, l, c, h1, h2, h4⟩
set_option maxRecDepth 100000 in
set_option maxHeartbeats 32000000 in
theorem revCalls_any {zs : List Int} {v : Value} {pa by' : ByteArray} {w : World} (hz : SlI w v zs) (hpl : pa.size ≤ 140737488351232) (hbl : by'.size ≤ 140737488351232) (hm : MX w) :
    Calls Tryz.prog 3 #[v, .string pa, .string by'] w fun e w' => e = .returned (.bool true) ∧ Kp w w' := by
  have hz' := hz
  obtain ⟨⟨ao, cap, rfl, hc, hmx, hat⟩, hlt, hsm⟩ := hz
  obtain ⟨len0, hlen⟩ : ∃ len, len = zs.length := ⟨_, rfl⟩
  rw [← hlen] at hz' ⊢
  obtain ⟨g, hgg⟩ : ∃ g, g = w.heap.size := ⟨_, rfl⟩
  obtain ⟨w1, hw1⟩ : ∃ w1, w1 = w.alloc (Obj.cells #[.slice ao len0 cap, .int .i64 0] 25) := ⟨_, rfl⟩
  have htp : Tp w w1 g 0 := by
    rw [hw1, hgg]
    exact ⟨⟨ao, len0, cap, zs, hz', Blk.new _ _ _⟩, Kp.alloc (Kp.refl _) _, Nat.le_refl _⟩
  have HSP := Lib.hid (spoiled_q (n := 5330) ⟨0, by omega, htp⟩)
  have HW1 := Lib.hid hw1; have HM := Lib.hid hm; have HGG := Lib.hid hgg
  have HPL := Lib.hid hpl; have HBL := Lib.hid hbl
  clear hz' hc hmx hat hlt hsm hlen hw1 htp hm hgg hpl hbl
  go_enter Tryz.func3, Tryz.ntmps3
  go_wp2_with fail
  rw [← HW1.out, ← HGG.out]
  refine HSP.out.mono ?_
  rintro e w2 ⟨⟨u, fs, rfl, hr, hf20⟩, hq, hg⟩
  obtain ⟨ua, ul, uc, hu⟩ := hr.form
  subst hu
  have HSP2 := Lib.hid (spoiled_q (n := 20) hq)
  have HR2 := Lib.hid hr; have HF20 := Lib.hid hf20; have HQ2 := Lib.hid hq
  clear hr hf20 hq hg
  go_wp2_with fail
  refine HSP2.out.mono ?_
  rintro e w3 ⟨⟨u2, gs, rfl, hr, hf20⟩, hq, hg⟩
  obtain ⟨va, vl, vc, hu⟩ := hr.form
  subst hu
  have HR3 := Lib.hid (HR2.out.drawn HQ2.out hg); have HS3 := Lib.hid hr; have HQ3 := Lib.hid hq
  clear hr hf20 hq hg
  obtain ⟨b8, hb8⟩ : ∃ b, b = w3.heap.size := ⟨_, rfl⟩
  obtain ⟨b9, hb9⟩ : ∃ b, b = w3.heap.size + 1 := ⟨_, rfl⟩
  obtain ⟨Wa, hWa⟩ : ∃ W, W = w3.alloc (.cells #[.slice ua ul uc] 28) := ⟨_, rfl⟩
  obtain ⟨Wr, hWr⟩ : ∃ W, W = Wa.alloc (.cells #[.slice va vl vc] 28) := ⟨_, rfl⟩
  have za : Wa.heap.size = w3.heap.size + 1 := by rw [hWa]; simp
  have ka : Kp w3 Wa := by rw [hWa]; exact kp_alloc _ _
  have kb : Kp Wa Wr := by rw [hWr]; exact kp_alloc _ _
  have XB8 : Hid (Blk Wr b8 28 #[.slice ua ul uc]) := Lib.hid (by
    have h : Blk Wa w3.heap.size 28 #[.slice ua ul uc] := by rw [hWa]; exact Blk.new _ _ _
    rw [hb8]; exact h.keep kb)
  have XB9 : Hid (Blk Wr b9 28 #[.slice va vl vc]) := Lib.hid (by rw [hb9, ← za, hWr]; exact Blk.new _ _ _)
  have HWR : Hid (Wr = (w3.alloc (.cells #[.slice ua ul uc] 28)).alloc (.cells #[.slice va vl vc] 28)) := Lib.hid (by rw [hWr, hWa])
  have HTR : Hid (Tq w Wr g 20) := Lib.hid (HQ3.out.keep (Kp.trans ka kb))
  have HRr : Hid (Rw Wr (.slice ua ul uc) fs) := Lib.hid (HR3.out.keep (Kp.trans ka kb))
  have HSr : Hid (Rw Wr (.slice va vl vc) gs) := Lib.hid (HS3.out.keep (Kp.trans ka kb))
  have HN8 : Hid (b8 ≠ g ∧ g < Wr.heap.size) := Lib.hid (by have h1 := HQ3.out.lt; have h2 := (Kp.trans ka kb).size; exact ⟨by omega, by omega⟩)
  have HB8 := Lib.hid hb8; have HB9 := Lib.hid hb9
  have HMR : Hid (∀ W, Kp Wr W → MX W) := Lib.hid (fun W hk => HM.out.keep (Kp.trans HTR.out.base hk))
  obtain ⟨C, hC⟩ : ∃ C, C = chk fs := ⟨_, rfl⟩
  obtain ⟨DS, hDS⟩ : ∃ D, D = decide (fs = gs) := ⟨_, rfl⟩
  have CC1 : Hid (∀ W, Kp Wr W → Calls Tryz.prog 8 #[.agg #[.slice ua ul uc]] W fun e w' => e = .returned (.int .i64 (C : Nat)) ∧ Kp W w') := Lib.hid (fun W hk => by rw [hC]; exact Check_any (HRr.out.keep hk) (HMR.out W hk))
  have CC2 : Hid (∀ W, Kp Wr W → Calls Tryz.prog 9 #[.agg #[.slice ua ul uc]] W fun e w' => e = .returned (.int .i64 (C : Nat)) ∧ Kp W w') := Lib.hid (fun W hk => by rw [hC]; exact rCheck_any (HRr.out.keep hk))
  have CS1 : Hid (∀ W, Kp Wr W → Calls Tryz.prog 10 #[.agg #[.slice ua ul uc], .agg #[.slice va vl vc]] W fun e w' => e = .returned (.bool DS) ∧ Kp W w') := Lib.hid (fun W hk => by rw [hDS]; exact Same_pany (HRr.out.keep hk) (HSr.out.keep hk))
  have CS2 : Hid (∀ W, Kp Wr W → Calls Tryz.prog 11 #[.agg #[.slice ua ul uc], .agg #[.slice va vl vc]] W fun e w' => e = .returned (.bool DS) ∧ Kp W w') := Lib.hid (fun W hk => by rw [hDS]; exact rSame_any (HRr.out.keep hk) (HSr.out.keep hk))
  have CSM : Hid (∀ W x y gs, Rw W x gs → Rw W y gs → Calls Tryz.prog 11 #[.agg #[x], .agg #[y]] W fun e w' => e = .returned (.bool true) ∧ Kp W w') := Lib.hid (fun W x y gs h1 h2 => by
    have h := rSame_any h1 h2
    rw [decide_eq_true rfl] at h
    exact h)
  have qC : ((C : Int) != (C : Int)) = false := by simp
  have qD : (DS != DS) = false := by simp
  have x8 := XB8.out.cell 0 rfl; have x9 := XB9.out.cell 0 rfl
  clear hWa hWr za ka kb hb8 hb9 hC hDS
  go_wp2_with fail
  rw [← HWR.out, ← HB9.out, ← HB8.out]
  go_region_held3 (fun w' => w'.cell? ⟨b8, 0, none⟩ = some (.slice ua ul uc) ∧ w'.cell? ⟨b9, 0, none⟩ = some (.slice va vl vc) ∧ Kp Wr w')
    (first
      | exact ⟨x8, x9, Kp.refl _⟩
      | (go_split_ands; exact ⟨(XB8.out.keep (by first | assumption | exact Kp.refl _ | exact Kp.trans (by assumption) (by assumption) | exact Kp.trans (by assumption) (Kp.drewN _ 1) | exact Kp.drewN _ 1)).cell 0 rfl, (XB9.out.keep (by first | assumption | exact Kp.refl _ | exact Kp.trans (by assumption) (by assumption) | exact Kp.trans (by assumption) (Kp.drewN _ 1) | exact Kp.drewN _ 1)).cell 0 rfl, (by first | assumption | exact Kp.refl _ | exact Kp.trans (by assumption) (by assumption) | exact Kp.trans (by assumption) (Kp.drewN _ 1) | exact Kp.drewN _ 1)⟩)
      | exact ⟨(XB8.out.keep (by first | assumption | exact Kp.refl _ | exact Kp.trans (by assumption) (by assumption) | exact Kp.trans (by assumption) (Kp.drewN _ 1) | exact Kp.drewN _ 1)).cell 0 rfl, (XB9.out.keep (by first | assumption | exact Kp.refl _ | exact Kp.trans (by assumption) (by assumption) | exact Kp.trans (by assumption) (Kp.drewN _ 1) | exact Kp.drewN _ 1)).cell 0 rfl, (by first | assumption | exact Kp.refl _ | exact Kp.trans (by assumption) (by assumption) | exact Kp.trans (by assumption) (Kp.drewN _ 1) | exact Kp.drewN _ 1)⟩
      | fail "no keep")
    (first
      | (go_at_call 8; (try go_split_ands); refine (CC1.out _ (by first | assumption | exact Kp.refl _ | exact Kp.trans (by assumption) (by assumption) | exact Kp.trans (by assumption) (Kp.drewN _ 1) | exact Kp.drewN _ 1)).mono ?_; rintro e wa ⟨rfl, hka⟩)
      | (go_at_call 9; (try go_split_ands); refine (CC2.out _ (by first | assumption | exact Kp.refl _ | exact Kp.trans (by assumption) (by assumption) | exact Kp.trans (by assumption) (Kp.drewN _ 1) | exact Kp.drewN _ 1)).mono ?_; rintro e wb ⟨rfl, hkb⟩)
      | (go_at_call 10; (try go_split_ands); refine (CS1.out _ (by first | assumption | exact Kp.refl _ | exact Kp.trans (by assumption) (by assumption) | exact Kp.trans (by assumption) (Kp.drewN _ 1) | exact Kp.drewN _ 1)).mono ?_; rintro e wc ⟨rfl, hkc⟩)
      | (go_at_call 11; (try go_split_ands); refine (CS2.out _ (by first | assumption | exact Kp.refl _ | exact Kp.trans (by assumption) (by assumption) | exact Kp.trans (by assumption) (Kp.drewN _ 1) | exact Kp.drewN _ 1)).mono ?_; rintro e wd ⟨rfl, hkd⟩)
      | fail "no arm")
  all_goals
    have HKD : Hid (Kp Wr wd) := Lib.hid (by rename_i hH; exact hH.2.2)
    have HTD : Hid (Tq w wd g 20) := Lib.hid (HTR.out.keep HKD.out)
    have HGD : Hid (Gr g Wr wd) := Lib.hid (HKD.out.gr g)
    obtain ⟨PS, hPS⟩ : ∃ x, x = pa ++ ⟨#[46, 115, 114, 99]⟩ := ⟨_, rfl⟩
    have hadd : ∀ w, (Op.stringOp .add pa ⟨#[46, 115, 114, 99]⟩).run Tryz.prog w = .ok (.string PS) w := fun w => by rw [hPS]; exact run_string_add_sum w _ _ (by have := HPL.out; show _ + 4 ≤ _; omega)
    have HPSZ : Hid (PS.size ≤ maxLen) := Lib.hid (by rw [hPS, ByteArray.size_append']; have := HPL.out; show _ + 4 ≤ _; unfold maxLen; omega)
    clear x8 x9 hPS
    clear hka hkb hkc hkd
    rename_i hH
    clear hH
    go_wp2_with fail
    go_loopw [10] (fun i wr => ∃ k : Nat, i = .int .i64 k ∧ k ≤ 6 ∧ Gr g Wr wr ∧ Tq w wr g (20 - 2 * k)) (fun i _ => 6 - (intOf i).toNat)
    case atStart => exact ⟨0, rfl, by omega, HGD.out, HTD.out⟩
    case round =>
      obtain ⟨k, rfl, hk, hgr, htq⟩ := hrel
      rename World => wr
      have HGW := Lib.hid hgr; have HTW := Lib.hid htq
      clear hgr htq
      by_cases hk6 : k < 6
      · obtain ⟨N, hN⟩ : ∃ N, N = 20 - 2 * (k + 1) := ⟨_, rfl⟩
        have HNN := Lib.hid hN
        have hkI : (k : Int) < 6 := by omega
        obtain ⟨ss1, hss1⟩ : ∃ l : List ByteArray, l = [⟨#[97, 46, 115, 114, 99]⟩, ⟨#[98, 46, 115, 114, 99]⟩, ⟨#[97, 46, 100, 97, 116]⟩, ⟨#[99]⟩, ⟨#[100, 47, 98, 46, 100, 97, 116]⟩, ⟨#[110, 101, 119]⟩, pa] := ⟨_, rfl⟩
        obtain ⟨ss2, hss2⟩ : ∃ l : List ByteArray, l = [⟨#[97, 46, 115, 114, 99]⟩, ⟨#[99]⟩, ⟨#[120, 46, 115, 114, 99]⟩, ⟨#[110, 101, 119, 47, 120]⟩, pa] := ⟨_, rfl⟩
        have ZS : Hid (∀ s : ByteArray, s ∈ ss1 ∨ s ∈ ss2 → s.size ≤ maxLen) := Lib.hid (fun s hs => by
          have h1 := HPL.out
          rw [hss1, hss2] at hs
          simp only [List.mem_cons, List.not_mem_nil, or_false] at hs
          rcases hs with (rfl | rfl | rfl | rfl | rfl | rfl | rfl) | (rfl | rfl | rfl | rfl | rfl) <;> first | decide | (unfold maxLen; omega))
        obtain ⟨W1, hW1⟩ : ∃ W, W = wr.alloc (.cells #[.string ⟨#[97, 46, 115, 114, 99]⟩, .string ⟨#[98, 46, 115, 114, 99]⟩, .string ⟨#[97, 46, 100, 97, 116]⟩, .string ⟨#[99]⟩, .string ⟨#[100, 47, 98, 46, 100, 97, 116]⟩, .string ⟨#[110, 101, 119]⟩, .string pa] 9) := ⟨_, rfl⟩
        have k1 : Kp wr W1 := by rw [hW1]; exact kp_alloc _ _
        have B1 : Blk W1 wr.heap.size 9 (ss1.map Value.string).toArray := by rw [hW1, hss1]; exact Blk.new _ _ _
        have HO1 := Lib.hid (One_z (n := N + 1) (ss := ss1) (b := wr.heap.size) (m := 7) ((HTW.out.keep k1).less (by omega)) (by have := HTW.out.lt; omega) (fun i s hs => B1.str hs) (by rw [hss1]; rfl) (by omega) (by omega))
        have HG1 := Lib.hid (Gr.trans HGW.out (k1.gr g))
        have HW1' := Lib.hid hW1
        have HS1 := Lib.hid hss1; have HS2 := Lib.hid hss2
        clear hN hss1 hss2 hW1 k1 B1 hk
        go_wp2_with fail
        rw [← HW1'.out]
        refine HO1.out.mono ?_
        rintro e w2 ⟨⟨S1, rfl, hs1⟩, hq2, hg2⟩
        obtain ⟨W3, hW3⟩ : ∃ W, W = w2.alloc (.cells #[.string ⟨#[97, 46, 115, 114, 99]⟩, .string ⟨#[99]⟩, .string ⟨#[120, 46, 115, 114, 99]⟩, .string ⟨#[110, 101, 119, 47, 120]⟩, .string pa] 9) := ⟨_, rfl⟩
        have k3 : Kp w2 W3 := by rw [hW3]; exact kp_alloc _ _
        have B3 : Blk W3 w2.heap.size 9 (ss2.map Value.string).toArray := by rw [hW3, HS2.out]; exact Blk.new _ _ _
        have HO2 := Lib.hid (One_z (n := N) (ss := ss2) (b := w2.heap.size) (m := 5) (hq2.keep k3) (by have := hq2.lt; omega) (fun i s hs => B3.str hs) (by rw [HS2.out]; rfl) (by omega) (by omega))
        have HG3 := Lib.hid (Gr.trans (Gr.trans HG1.out hg2) (k3.gr g))
        have Z1 : Hid (S1.size ≤ maxLen) := Lib.hid (ZS.out S1 (.inl hs1))
        have HW3 := Lib.hid hW3
        clear hs1 hq2 hg2 hW3 k3 B3
        go_wp2_with fail
        rw [← HW3.out]
        refine HO2.out.mono ?_
        rintro e Wp ⟨⟨S2, rfl, hs2⟩, hq4, hg4⟩
        have HTp := Lib.hid hq4; have HGp := Lib.hid (Gr.trans HG3.out hg4)
        have ZB : Hid (by'.size ≤ maxLen) := Lib.hid (by have := HBL.out; unfold maxLen; omega)
        have RP : Hid (Rw Wp (.slice ua ul uc) fs) := Lib.hid (HRr.out.drawn HTR.out HGp.out)
        have MP : Hid (∀ W, Kp Wp W → MX W) := Lib.hid (fun W hk => HM.out.keep (Kp.trans HTp.out.base hk))
        have BP : Hid (Blk Wp b8 28 #[.slice ua ul uc]) := Lib.hid (XB8.out.gr HGp.out HN8.out.1)
        clear hs2 hq4 hg4
        clear hadd
        obtain ⟨FS, hFS⟩ : ∃ x, x = st (findF fs (bs S1)).1 := ⟨_, rfl⟩
        obtain ⟨FB, hFB⟩ : ∃ x, x = (findF fs (bs S1)).2 := ⟨_, rfl⟩
        obtain ⟨SB, hSB⟩ : ∃ x, x = srcB (bs S1) := ⟨_, rfl⟩
        have CFI1 : Hid (∀ W, Kp Wp W → Calls Tryz.prog 13 #[.agg #[.slice ua ul uc], .string S1] W fun e w' => e = .returned (.tuple #[.string FS, .bool FB]) ∧ Kp W w') := Lib.hid (fun W hk => by
          have h := Find_any (RP.out.keep hk) (bs_lt S1) (MP.out W hk)
          rw [st_bs, ← hFS, ← hFB] at h
          exact h)
        have CFI2 : Hid (∀ W, Kp Wp W → Calls Tryz.prog 14 #[.agg #[.slice ua ul uc], .string S1] W fun e w' => e = .returned (.tuple #[.string FS, .bool FB]) ∧ Kp W w') := Lib.hid (fun W hk => by
          have h := rFind_any (RP.out.keep hk) (bs_lt S1)
          rw [st_bs, ← hFS, ← hFB] at h
          exact h)
        have CIS1 : Hid (∀ W, Kp Wp W → Calls Tryz.prog 15 #[.string S1] W fun e w' => e = .returned (.bool SB) ∧ Kp W w') := Lib.hid (fun W hk => by
          have h := IsSource_any (bs_lt S1) (by rw [bs_len]; exact Z1.out) (MP.out W hk)
          rw [st_bs, ← hSB] at h
          exact h)
        have CIS2 : Hid (∀ W, Calls Tryz.prog 16 #[.string S1] W fun e w' => e = .returned (.bool SB) ∧ W = w') := Lib.hid (fun W => by
          have h := rIsSource_any (w := W) (bs_lt S1)
          rw [st_bs, ← hSB] at h
          exact h)
        obtain ⟨E1, hE1⟩ : ∃ x, x = (putF fs (bs S1) (bs by')).1 := ⟨_, rfl⟩
        obtain ⟨G1, hG1⟩ : ∃ x, x = (putF fs (bs S1) (bs by')).2 := ⟨_, rfl⟩
        have CPU1 : Hid (∀ W, Kp Wp W → Calls Tryz.prog 17 #[.agg #[.slice ua ul uc], .string S1, .string by'] W (RvX W E1 G1)) := Lib.hid (fun W hk => by
          have h := Put_any (RP.out.keep hk) (bs_lt S1) (bs_lt by') (MP.out W hk)
          rw [st_bs, st_bs] at h
          exact h.mono (fun e w' h => h.x (by rw [hE1, hG1])))
        have CPU2 : Hid (∀ W, Kp Wp W → Calls Tryz.prog 18 #[.agg #[.slice ua ul uc], .string S1, .string by'] W (RvX W E1 G1)) := Lib.hid (fun W hk => by
          have h := rPut_any (RP.out.keep hk) (bs_lt S1) (bs_lt by') (by rw [bs_len]; exact ZB.out)
          rw [st_bs, st_bs] at h
          exact h.mono (fun e w' h => h.x (by rw [hE1, hG1])))
        have qe1 : ((E1 : Int) != (E1 : Int)) = false := by simp
        obtain ⟨E2, hE2⟩ : ∃ x, x = (remF fs (bs S1)).1 := ⟨_, rfl⟩
        obtain ⟨G2, hG2⟩ : ∃ x, x = (remF fs (bs S1)).2 := ⟨_, rfl⟩
        have CRE1 : Hid (∀ W, Kp Wp W → Calls Tryz.prog 19 #[.agg #[.slice ua ul uc], .string S1] W (RvX W E2 G2)) := Lib.hid (fun W hk => by
          have h := Remove_any (RP.out.keep hk) (bs_lt S1) (MP.out W hk)
          rw [st_bs] at h
          exact h.mono (fun e w' h => h.x (by rw [hE2, hG2])))
        have CRE2 : Hid (∀ W, Kp Wp W → Calls Tryz.prog 20 #[.agg #[.slice ua ul uc], .string S1] W (RvX W E2 G2)) := Lib.hid (fun W hk => by
          have h := rRemove_any (RP.out.keep hk) (bs_lt S1)
          rw [st_bs] at h
          exact h.mono (fun e w' h => h.x (by rw [hE2, hG2])))
        have qe2 : ((E2 : Int) != (E2 : Int)) = false := by simp
        obtain ⟨E3, hE3⟩ : ∃ x, x = (movF fs (bs S1) (bs S2)).1 := ⟨_, rfl⟩
        obtain ⟨G3, hG3⟩ : ∃ x, x = (movF fs (bs S1) (bs S2)).2 := ⟨_, rfl⟩
        have CMO1 : Hid (∀ W, Kp Wp W → Calls Tryz.prog 21 #[.agg #[.slice ua ul uc], .string S1, .string S2] W (RvX W E3 G3)) := Lib.hid (fun W hk => by
          have h := Move_any (RP.out.keep hk) (bs_lt S1) (bs_lt S2) (MP.out W hk)
          rw [st_bs, st_bs] at h
          exact h.mono (fun e w' h => h.x (by rw [hE3, hG3])))
        have CMO2 : Hid (∀ W, Kp Wp W → Calls Tryz.prog 22 #[.agg #[.slice ua ul uc], .string S1, .string S2] W (RvX W E3 G3)) := Lib.hid (fun W hk => by
          have h := rMove_any (RP.out.keep hk) (bs_lt S1) (bs_lt S2)
          rw [st_bs, st_bs] at h
          exact h.mono (fun e w' h => h.x (by rw [hE3, hG3])))
        have qe3 : ((E3 : Int) != (E3 : Int)) = false := by simp
        clear hFS hFB hSB hE1 hG1 hE2 hG2 hE3 hG3
        have x0 := BP.out.cell 0 rfl
        go_wp2_with fail
        refine (CFI1.out Wp (Kp.refl _)).mono ?_
        rintro e u1 ⟨rfl, hk1⟩
        have K1 : Hid (Kp Wp u1) := Lib.hid hk1
        have x1 := (BP.out.keep hk1).cell 0 rfl
        clear hk1 x0
        go_wp2_with fail
        refine (CFI2.out u1 K1.out).mono ?_
        rintro e u2 ⟨rfl, hk2⟩
        have K2 := Lib.hid (Kp.trans K1.out hk2)
        clear hk2 x1
        go_wp2_with fail
        refine (CIS1.out u2 K2.out).mono ?_
        rintro e u3 ⟨rfl, hk3⟩
        have K3 := Lib.hid (Kp.trans K2.out hk3)
        have x3 := (BP.out.keep K3.out).cell 0 rfl
        clear hk3
        go_wp2_with fail
        refine (CIS2.out u3).mono ?_
        rintro e w' ⟨rfl, rfl⟩
        go_wp2_with fail
        refine (CPU1.out u3 K3.out).mono ?_
        rintro e u4 ⟨a4, l4, c4, rfl, hr4, hk4⟩
        clear x3
        obtain ⟨xb, hxb⟩ : ∃ b, b = u4.heap.size := ⟨_, rfl⟩
        obtain ⟨X4, hX4⟩ : ∃ W, W = u4.alloc (.cells #[.slice a4 l4 c4] 28) := ⟨_, rfl⟩
        have kk4 : Kp u4 X4 := by rw [hX4]; exact kp_alloc _ _
        have XB4 : Hid (Blk X4 xb 28 #[.slice a4 l4 c4]) := Lib.hid (by rw [hX4, hxb]; exact Blk.new _ _ _)
        have HX4 := Lib.hid (hr4.keep kk4)
        have K4 := Lib.hid (Kp.trans K3.out (Kp.trans hk4 kk4))
        have XN : Hid (Wp.heap.size ≤ xb) := Lib.hid (by rw [hxb]; exact (Kp.trans K3.out hk4).size)
        have EX4 := Lib.hid hX4; have EXB := Lib.hid hxb
        have x4 := (BP.out.keep K4.out).cell 0 rfl
        rw [hX4] at x4
        clear hr4 hk4 kk4 hX4 hxb
        go_wp2_with fail
        rw [← EX4.out, ← EXB.out]
        refine (CPU2.out X4 K4.out).mono ?_
        rintro e u5 ⟨a5, l5, c5, rfl, hr5, hk5⟩
        clear x4
        obtain ⟨yb, hyb⟩ : ∃ b, b = u5.heap.size := ⟨_, rfl⟩
        obtain ⟨X5, hX5⟩ : ∃ W, W = u5.alloc (.cells #[.slice a5 l5 c5] 28) := ⟨_, rfl⟩
        have kk5 : Kp u5 X5 := by rw [hX5]; exact kp_alloc _ _
        have YB5 : Hid (Blk X5 yb 28 #[.slice a5 l5 c5]) := Lib.hid (by rw [hX5, hyb]; exact Blk.new _ _ _)
        have HY5 := Lib.hid (hr5.keep kk5)
        have XB5 := Lib.hid (XB4.out.keep (Kp.trans hk5 kk5)); have HX5 := Lib.hid (HX4.out.keep (Kp.trans hk5 kk5))
        have K5 := Lib.hid (Kp.trans K4.out (Kp.trans hk5 kk5))
        have YN : Hid (xb < yb) := Lib.hid (by rw [hyb]; have h1 := XB4.out.lt; have h2 := hk5.size; omega)
        have EX5 := Lib.hid hX5; have EYB := Lib.hid hyb
        have p5 := XB5.out.cell 0 rfl; have q5 := YB5.out.cell 0 rfl
        rw [hX5] at p5 q5
        rw [hyb] at q5
        clear hr5 hk5 kk5 hX5 hyb
        go_wp2_with fail
        rw [← EX5.out, ← EYB.out]
        refine (CSM.out X5 _ _ _ HX5.out HY5.out).mono ?_
        rintro e u6 ⟨rfl, hk6⟩
        have K6 := Lib.hid (Kp.trans K5.out hk6); have XB6 := Lib.hid (XB5.out.keep hk6); have YB6 := Lib.hid (YB5.out.keep hk6)
        have x6 := (BP.out.keep K6.out).cell 0 rfl
        clear hk6 p5 q5
        go_wp2_with fail
        refine (CRE1.out u6 K6.out).mono ?_
        rintro e u7 ⟨a7, l7, c7, rfl, hr7, hk7⟩
        clear x6
        obtain ⟨X7, hX7⟩ : ∃ W, W = u7.setCell ⟨xb, 0, none⟩ (.slice a7 l7 c7) := ⟨_, rfl⟩
        have o7 : Only xb u7 X7 := by rw [hX7]; exact (Only.refl _ _).set 0 _
        have xk := XB6.out.keep hk7; have yk := YB6.out.keep hk7
        have XB7 : Hid (Blk X7 xb 28 #[.slice a7 l7 c7]) := Lib.hid (by rw [hX7]; exact xk.set 0 _)
        have HX7 : Hid (Rw X7 (.slice a7 l7 c7) G2) := Lib.hid (by rw [hX7]; exact hr7.beside xk)
        have YB7 := Lib.hid (yk.other o7 (by have := YN.out; omega))
        have K7 : Hid (Kp Wp X7) := Lib.hid (Only.kp (Kp.trans K6.out hk7) o7 XN.out)
        have EX7 := Lib.hid hX7
        have ww := xk.cell 0 rfl; have wf := xk.free 0
        have x7 := (BP.out.keep K7.out).cell 0 rfl
        rw [hX7] at x7
        clear hr7 hk7 hX7 o7 xk yk
        go_wp2_with fail
        rw [← EX7.out]
        refine (CRE2.out X7 K7.out).mono ?_
        rintro e u8 ⟨a8, l8, c8, rfl, hr8, hk8⟩
        clear x7 ww wf
        obtain ⟨X8, hX8⟩ : ∃ W, W = u8.setCell ⟨yb, 0, none⟩ (.slice a8 l8 c8) := ⟨_, rfl⟩
        have o8 : Only yb u8 X8 := by rw [hX8]; exact (Only.refl _ _).set 0 _
        have xk := XB7.out.keep hk8; have yk := YB7.out.keep hk8
        have YB8 : Hid (Blk X8 yb 28 #[.slice a8 l8 c8]) := Lib.hid (by rw [hX8]; exact yk.set 0 _)
        have HY8 : Hid (Rw X8 (.slice a8 l8 c8) G2) := Lib.hid (by rw [hX8]; exact hr8.beside yk)
        have XB8 := Lib.hid (xk.other o8 (by have := YN.out; omega))
        have HX8 : Hid (Rw X8 (.slice a7 l7 c7) G2) := Lib.hid (by rw [hX8]; exact (HX7.out.keep hk8).beside yk)
        have K8 : Hid (Kp Wp X8) := Lib.hid (Only.kp (Kp.trans K7.out hk8) o8 (by have := XN.out; have := YN.out; omega))
        have EX8 := Lib.hid hX8
        have ww := yk.cell 0 rfl; have wf := yk.free 0
        have p8 := XB8.out.cell 0 rfl; have q8 := YB8.out.cell 0 rfl
        rw [hX8] at p8 q8
        clear hr8 hk8 hX8 o8 xk yk
        go_wp2_with fail
        rw [← EX8.out]
        refine (CSM.out X8 _ _ _ HX8.out HY8.out).mono ?_
        rintro e u9 ⟨rfl, hk9⟩
        have K9 := Lib.hid (Kp.trans K8.out hk9); have XB9 := Lib.hid (XB8.out.keep hk9); have YB9 := Lib.hid (YB8.out.keep hk9)
        have x9 := (BP.out.keep K9.out).cell 0 rfl
        clear hk9 p8 q8 ww wf
        go_wp2_with fail
        refine (CMO1.out u9 K9.out).mono ?_
        rintro e u10 ⟨a10, l10, c10, rfl, hr10, hk10⟩
        clear x9
        obtain ⟨X10, hX10⟩ : ∃ W, W = u10.setCell ⟨xb, 0, none⟩ (.slice a10 l10 c10) := ⟨_, rfl⟩
        have o10 : Only xb u10 X10 := by rw [hX10]; exact (Only.refl _ _).set 0 _
        have xk := XB9.out.keep hk10; have yk := YB9.out.keep hk10
        have XB10 : Hid (Blk X10 xb 28 #[.slice a10 l10 c10]) := Lib.hid (by rw [hX10]; exact xk.set 0 _)
        have HX10 : Hid (Rw X10 (.slice a10 l10 c10) G3) := Lib.hid (by rw [hX10]; exact hr10.beside xk)
        have YB10 := Lib.hid (yk.other o10 (by have := YN.out; omega))
        have K10 : Hid (Kp Wp X10) := Lib.hid (Only.kp (Kp.trans K9.out hk10) o10 XN.out)
        have EX10 := Lib.hid hX10
        have ww := xk.cell 0 rfl; have wf := xk.free 0
        have x10 := (BP.out.keep K10.out).cell 0 rfl
        rw [hX10] at x10
        clear hr10 hk10 hX10 o10 xk yk
        go_wp2_with fail
        rw [← EX10.out]
        refine (CMO2.out X10 K10.out).mono ?_
        rintro e u11 ⟨a11, l11, c11, rfl, hr11, hk11⟩
        clear x10 ww wf
        obtain ⟨X11, hX11⟩ : ∃ W, W = u11.setCell ⟨yb, 0, none⟩ (.slice a11 l11 c11) := ⟨_, rfl⟩
        have o11 : Only yb u11 X11 := by rw [hX11]; exact (Only.refl _ _).set 0 _
        have xk := XB10.out.keep hk11; have yk := YB10.out.keep hk11
        have YB11 : Hid (Blk X11 yb 28 #[.slice a11 l11 c11]) := Lib.hid (by rw [hX11]; exact yk.set 0 _)
        have HY11 : Hid (Rw X11 (.slice a11 l11 c11) G3) := Lib.hid (by rw [hX11]; exact hr11.beside yk)
        have XB11 := Lib.hid (xk.other o11 (by have := YN.out; omega))
        have HX11 : Hid (Rw X11 (.slice a10 l10 c10) G3) := Lib.hid (by rw [hX11]; exact (HX10.out.keep hk11).beside yk)
        have K11 : Hid (Kp Wp X11) := Lib.hid (Only.kp (Kp.trans K10.out hk11) o11 (by have := XN.out; have := YN.out; omega))
        have EX11 := Lib.hid hX11
        have ww := yk.cell 0 rfl; have wf := yk.free 0
        have p11 := XB11.out.cell 0 rfl; have q11 := YB11.out.cell 0 rfl
        rw [hX11] at p11 q11
        clear hr11 hk11 hX11 o11 xk yk
        go_wp2_with fail
        rw [← EX11.out]
        refine (CSM.out X11 _ _ _ HX11.out HY11.out).mono ?_
        rintro e u12 ⟨rfl, hk12⟩
        have K12 := Lib.hid (Kp.trans K11.out hk12); have XB12 := Lib.hid (XB11.out.keep hk12); have YB12 := Lib.hid (YB11.out.keep hk12)
        have x12 := (BP.out.keep K12.out).cell 0 rfl
        clear hk12 p11 q11 ww wf
        go_wp2_with fail
        go_roundw
        case rel => exact ⟨k + 1, by go_num, by omega, Gr.trans HGp.out (K12.out.gr g), by rw [← HNN.out]; exact HTp.out.keep K12.out⟩
        case measure => simp [intOf]; omega
      · obtain rfl : k = 6 := by omega
        have MW : Hid (∀ W, Kp wr W → MX W) := Lib.hid (fun W hk => HM.out.keep (Kp.trans HTW.out.base hk))
        obtain ⟨SA, hSA⟩ : ∃ x, x = srcB (bs pa) := ⟨_, rfl⟩
        obtain ⟨SP, hSP⟩ : ∃ x, x = srcB (bs PS) := ⟨_, rfl⟩
        have CA1 : Hid (∀ W, Kp wr W → Calls Tryz.prog 15 #[.string pa] W fun e w' => e = .returned (.bool SA) ∧ Kp W w') := Lib.hid (fun W hk => by
          have h := IsSource_any (bs_lt pa) (by rw [bs_len]; have := HPL.out; unfold maxLen; omega) (MW.out W hk)
          rw [st_bs, ← hSA] at h
          exact h)
        have CA2 : Hid (∀ W, Calls Tryz.prog 16 #[.string pa] W fun e w' => e = .returned (.bool SA) ∧ W = w') := Lib.hid (fun W => by
          have h := rIsSource_any (w := W) (bs_lt pa)
          rw [st_bs, ← hSA] at h
          exact h)
        have CP1 : Hid (∀ W, Kp wr W → Calls Tryz.prog 15 #[.string PS] W fun e w' => e = .returned (.bool SP) ∧ Kp W w') := Lib.hid (fun W hk => by
          have h := IsSource_any (bs_lt PS) (by rw [bs_len]; exact HPSZ.out) (MW.out W hk)
          rw [st_bs, ← hSP] at h
          exact h)
        have CP2 : Hid (∀ W, Calls Tryz.prog 16 #[.string PS] W fun e w' => e = .returned (.bool SP) ∧ W = w') := Lib.hid (fun W => by
          have h := rIsSource_any (w := W) (bs_lt PS)
          rw [st_bs, ← hSP] at h
          exact h)
        have CAW : Hid (∀ W, Kp wr W → Calls Tryz.prog 23 #[] W fun e w' => e = .returned (.bool true) ∧ Kp W w') := Lib.hid (fun W hk => rvAwake_any (MW.out W hk))
        have qa : (SA == SA) = true := by simp
        have qp : (SP == SP) = true := by simp
        have HBW : Hid (Kp w wr) := Lib.hid HTW.out.base
        clear hSA hSP hk hk6
        go_wp2_with fail
        refine (CA1.out wr (Kp.refl _)).mono ?_
        rintro e u1 ⟨rfl, hk1⟩
        have K1 := Lib.hid hk1
        clear hk1
        go_wp2_with fail
        refine (CA2.out u1).mono ?_
        rintro e w' ⟨rfl, rfl⟩
        go_wp2_with fail
        refine (CP1.out u1 K1.out).mono ?_
        rintro e u2 ⟨rfl, hk2⟩
        have K2 := Lib.hid (Kp.trans K1.out hk2)
        clear hk2
        go_wp2_with fail
        refine (CP2.out u2).mono ?_
        rintro e w' ⟨rfl, rfl⟩
        go_wp2_with fail
        refine (CAW.out u2 K2.out).mono ?_
        rintro e u3 ⟨rfl, hk3⟩
        have K3 := Lib.hid (Kp.trans K2.out hk3)
        clear hk3
        go_wp2_with fail
        go_ret
        exact ⟨rfl, Kp.trans HBW.out K3.out⟩
theorem revCalls_row {w : World} (hm : MX w) {v : Value} {zs : List Int} (hs : SlI w v zs) (s : ByteArray) (hz : s.size ≤ 140737488351232) (t : ByteArray) (ht : t.size ≤ 140737488351232) : Calls Tryz.prog 3 #[v, .string s, .string t] w fun e w' => e = .returned (.bool true) ∧ Kp w w' := revCalls_any hs hz ht hm
end By
end Go.Proofs.YtmkijkaabcgcbaaGreatDoor
