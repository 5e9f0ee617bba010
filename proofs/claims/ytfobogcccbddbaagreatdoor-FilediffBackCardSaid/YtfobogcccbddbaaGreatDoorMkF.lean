/- A program's expression of any depth. Conditions: the tape has so many draws left; the names lie apart from it. -/
import Derived.Test.YtfobogcccbddbaaGreatDoorZag
namespace Go.Proofs.YtfobogcccbddbaaGreatDoor
namespace By
open Go.RowKit WireN LexN
set_option linter.unusedVariables false
set_option linter.unusedSimpArgs false

set_option maxRecDepth 100000 in
set_option maxHeartbeats 16000000 in
theorem Expr_succ {d : Nat} (hd : d ≤ 2) (hE : ∀ {w0 w : World} {g n : Nat} {v : Value} {ss : List ByteArray}, Tq w0 w g (n + DE d) → Ps g w v ss → Calls Tryz.prog 76 #[.pointer (some ⟨g, 0, none⟩), .int .i64 (d : Nat), v] w (StrR w0 g n (BE d) w))
    {w0 w : World} {g n : Nat} {v : Value} {ss : List ByteArray} (ht : Tq w0 w g (n + DE (d + 1))) (hp : Ps g w v ss) :
    Calls Tryz.prog 76 #[.pointer (some ⟨g, 0, none⟩), .int .i64 ((d : Int) + 1), v] w (StrR w0 g n (BE (d + 1)) w) := by
  obtain ⟨ao, c, rfl, hlc, -⟩ := hp.ex
  obtain ⟨l, hl0⟩ : ∃ l, l = ss.length := ⟨_, rfl⟩
  have hl10 : l ≤ 10 := by rw [hl0]; exact hp.few
  rw [← hl0] at hp hlc ⊢
  obtain ⟨Q, hQ⟩ : ∃ Q, Q = StrR w0 g n (BE (d + 1)) w := ⟨_, rfl⟩
  rw [← hQ]
  have hgw := ht.lt
  obtain ⟨tb, htb⟩ : ∃ tb, tb = w.heap.size := ⟨_, rfl⟩
  obtain ⟨db, hdb⟩ : ∃ db, db = w.heap.size + 1 := ⟨_, rfl⟩
  obtain ⟨pb, hpb⟩ : ∃ pb, pb = w.heap.size + 2 := ⟨_, rfl⟩
  obtain ⟨Wa, hWa⟩ : ∃ W, W = w.alloc (.cells #[.pointer (some ⟨g, 0, none⟩)] 28) := ⟨_, rfl⟩
  obtain ⟨Wb, hWb⟩ : ∃ W, W = Wa.alloc (.cells #[.int .i64 ((d : Int) + 1)] 3) := ⟨_, rfl⟩
  obtain ⟨X0, hX0⟩ : ∃ W, W = Wb.alloc (.cells #[.slice ao l c] 74) := ⟨_, rfl⟩
  have za : Wa.heap.size = w.heap.size + 1 := by rw [hWa]; simp
  have zb : Wb.heap.size = w.heap.size + 2 := by rw [hWb]; simp; omega
  have ka : Kp w Wa := by rw [hWa]; exact kp_alloc w _
  have kb : Kp Wa Wb := by rw [hWb]; exact kp_alloc Wa _
  have kc : Kp Wb X0 := by rw [hX0]; exact kp_alloc Wb _
  have HKX : Hid (Kp w X0) := Lib.hid (Kp.trans ka (Kp.trans kb kc))
  have T1 : Blk X0 tb 28 #[.pointer (some ⟨g, 0, none⟩)] := by
    have h : Blk Wa w.heap.size 28 #[.pointer (some ⟨g, 0, none⟩)] := by rw [hWa]; exact Blk.new _ _ _
    rw [htb]; exact (h.keep kb).keep kc
  have T2 : Blk X0 db 3 #[.int .i64 ((d : Int) + 1)] := by
    have h : Blk Wb Wa.heap.size 3 #[.int .i64 ((d : Int) + 1)] := by rw [hWb]; exact Blk.new _ _ _
    rw [hdb, ← za]; exact h.keep kc
  have T3 : Blk X0 pb 74 #[.slice ao l c] := by rw [hpb, ← zb, hX0]; exact Blk.new _ _ _
  have FACT : Hid (∀ W, Gr g X0 W → W.cell? ⟨tb, 0, none⟩ = some (.pointer (some ⟨g, 0, none⟩)) ∧ W.cell? ⟨db, 0, none⟩ = some (.int .i64 ((d : Int) + 1)) ∧ W.cell? ⟨pb, 0, none⟩ = some (.slice ao l c)) := Lib.hid (fun W hg =>
    ⟨cell_gr hg (T1.cell 0 rfl) (by omega), cell_gr hg (T2.cell 0 rfl) (by omega), cell_gr hg (T3.cell 0 rfl) (by omega)⟩)
  have HGW : Hid (g < X0.heap.size) := Lib.hid (by have := HKX.out.size; omega)
  have HLW : Hid (∀ W, Gr g X0 W → g < W.heap.size) := Lib.hid (fun W hg => Nat.lt_of_lt_of_le HGW.out hg.size)
  have HX0 : Hid (X0 = ((w.alloc (.cells #[.pointer (some ⟨g, 0, none⟩)] 28)).alloc (.cells #[.int .i64 ((d : Int) + 1)] 3)).alloc (.cells #[.slice ao l c] 74)) := Lib.hid (by rw [hX0, hWb, hWa])
  have HTB := Lib.hid htb; have HDB := Lib.hid hdb; have HPB := Lib.hid hpb
  have HP : Hid (Ps g X0 (.slice ao l c) ss) := Lib.hid (hp.gr (HKX.out.gr g))
  have HQ0 : Hid (Tq w0 X0 g (n + DE (d + 1))) := Lib.hid (ht.keep HKX.out)
  have FIN : Hid (∀ (s : ByteArray) (W : World) {k : Nat}, s.size ≤ k → k ≤ BE (d + 1) → Tq w0 W g n → Gr g X0 W → Q (.returned (.string s)) W) := Lib.hid (by
    intro s W k h1 h2 h3 h4
    rw [hQ]
    exact ⟨⟨s, rfl, Nat.le_trans h1 h2⟩, h3, Gr.trans (HKX.out.gr g) h4⟩)
  obtain ⟨x0, x1, x2⟩ := FACT.out X0 (Gr.refl _ _)
  rw [hX0, hWb, hWa] at x0 x1 x2
  have hli10 : (l : Int) ≤ 10 := by omega
  have hlci : (l : Int) ≤ (c : Int) := by omega
  clear ht hp hQ htb hdb hpb hWa hWb hX0 za zb ka kb kc T1 T2 T3 hl0 hl10 hlc hgw
  have hD1 : DE (d + 1) = 3 * DE d + 6 := rfl
  have hB1 : BE (d + 1) = 3 * BE d + 40 := rfl
  have HBB : Hid (BE d ≤ 1000) := Lib.hid (by
    rcases (show d = 0 ∨ d = 1 ∨ d = 2 by omega) with rfl | rfl | rfl <;> decide)
  rw [hD1] at HQ0
  rw [hB1] at FIN
  have HA : Hid (∀ (W : World) (m : Nat), Gr g X0 W → Tq w0 W g (m + DE d) → Calls Tryz.prog 98 #[.pointer (some ⟨tb, 0, none⟩), .pointer (some ⟨db, 0, none⟩), .pointer (some ⟨pb, 0, none⟩)] W (StrR w0 g m (BE d) W)) := Lib.hid (fun W m hg hq => by
    obtain ⟨f0, f1, f2⟩ := FACT.out W hg
    refine Expr1_q f0 f1 f2 (by omega) ((hE hq (HP.out.gr hg)).mono ?_)
    rintro e w' ⟨⟨s, h1, h2⟩, h3, h4⟩
    exact ⟨s, h1, ⟨s, h1, h2⟩, h3, h4⟩)
  obtain ⟨B, hB⟩ : ∃ B, B = BE d := ⟨_, rfl⟩
  obtain ⟨D, hD⟩ : ∃ D, D = DE d := ⟨_, rfl⟩
  rw [← hB] at FIN HBB HA
  rw [← hD] at HQ0 HA
  have HC0 := Lib.hid (Chance_q (n := n + 3 * D + 5) (HQ0.out.less (by omega)) 1 4 (by omega) (by omega))
  have hdi : (d : Int) ≤ 2 := by omega
  have hd0 : (0 : Int) ≤ (d : Int) := by omega
  clear hE hD1 hB1 hB hD HQ0 hd
  go_enter Tryz.func76, Tryz.ntmps76
  go_wp2_with fail
  rw [← HX0.out, ← HPB.out, ← HDB.out, ← HTB.out]
  clear x0 x1 x2
  refine HC0.out.mono ?_
  rintro e wn ⟨⟨b0, rfl⟩, hq, hg⟩
  have HQN : Hid (Tq w0 wn g (n + 3 * D + 5)) := Lib.hid hq
  have HGRN : Hid (Gr g X0 wn) := Lib.hid hg
  obtain ⟨x0, x1, x2⟩ := FACT.out wn HGRN.out
  clear hq hg
  cases b0 with
  | true =>
    go_wp2_with fail
    refine (Next_q (n := n + 4) (HQN.out.less (by omega)) 9 (by omega) (by omega)).mono ?_
    rintro e wl ⟨⟨r, hr, rfl⟩, hq, hg⟩
    have HQL : Hid (Tq w0 wl g (n + 4)) := Lib.hid hq
    have HGRL : Hid (Gr g X0 wl) := Lib.hid (Gr.trans HGRN.out hg)
    have HQwl := HQL; have HGRwl := HGRL
    obtain ⟨x0, x1, x2⟩ := FACT.out wl HGRL.out
    clear hq hg
    rcases (show r = 0 ∨ r = 1 ∨ r = 2 ∨ r = 3 ∨ r = 4 ∨ r = 5 ∨ r = 6 ∨ r = 7 ∨ r = 8 by omega) with rfl | rfl | rfl | rfl | rfl | rfl | rfl | rfl | rfl
    · by_cases hl : l = 0
      · subst hl
        go_wp2_with fail
        refine (Pick_q (n := n) (M := 9007199254740992) ((HQwl.out.less (by omega)).keep (kp_alloc _ _)) (by omega) (by omega) (by have := HGW.out; have := HGRwl.out.size; omega) (by
          intro i hi
          have hb := Blk.new wl 3 #[.int .i64 0, .int .i64 1, .int .i64 2, .int .i64 3, .int .i64 10, .int .i64 255, .int .i64 9007199254740992, .int .i64 1073741824]
          match i, hi with
          | 0, _ => exact ⟨0, by omega, hb.cell 0 rfl⟩
          | 1, _ => exact ⟨1, by omega, hb.cell 1 rfl⟩
          | 2, _ => exact ⟨2, by omega, hb.cell 2 rfl⟩
          | 3, _ => exact ⟨3, by omega, hb.cell 3 rfl⟩
          | 4, _ => exact ⟨10, by omega, hb.cell 4 rfl⟩
          | 5, _ => exact ⟨255, by omega, hb.cell 5 rfl⟩
          | 6, _ => exact ⟨9007199254740992, by omega, hb.cell 6 rfl⟩
          | 7, _ => exact ⟨1073741824, by omega, hb.cell 7 rfl⟩)).mono ?_
        rintro e wd ⟨⟨r9, hr9, rfl⟩, hqd, hgd⟩
        have HQD := Lib.hid hqd; have HGD := Lib.hid (Gr.trans HGRwl.out (Gr.trans ((kp_alloc wl _).gr g) hgd))
        have HDG := Lib.hid (Digits_k 15 r9 (by have : (10 : Nat) ^ (15 + 1) = 10000000000000000 := by decide
                                                omega) (by omega) wd)
        clear hr9 hqd hgd
        go_wp2_with fail
        refine HDG.out.mono ?_
        rintro e w' ⟨⟨s9, rfl, hz9⟩, rfl⟩
        have HZ9 := Lib.hid hz9
        clear hz9
        go_wp2_with fail
        exact FIN.out _ _ HZ9.out (by omega) HQD.out HGD.out
      · have hli : (0 : Int) < (l : Int) := by omega
        have HOC := Lib.hid (One_q (n := n) (HQL.out.less (by omega)) (HP.out.gr HGRL.out))
        clear hl
        go_wp2_with fail
        refine HOC.out.mono ?_
        rintro e wB ⟨⟨s, rfl, hs, -⟩, hqB, hgB⟩
        have HZ := Lib.hid hs; have HQB := Lib.hid hqB; have HGB := Lib.hid (Gr.trans HGRL.out hgB)
        clear hs hqB hgB
        go_wp2_with fail
        exact FIN.out _ _ HZ.out (by omega) HQB.out HGB.out
    · by_cases hl : l = 0
      · subst hl
        go_wp2_with fail
        refine (Pick_q (n := n) (M := 9007199254740992) ((HQwl.out.less (by omega)).keep (kp_alloc _ _)) (by omega) (by omega) (by have := HGW.out; have := HGRwl.out.size; omega) (by
          intro i hi
          have hb := Blk.new wl 3 #[.int .i64 0, .int .i64 1, .int .i64 2, .int .i64 3, .int .i64 10, .int .i64 255, .int .i64 9007199254740992, .int .i64 1073741824]
          match i, hi with
          | 0, _ => exact ⟨0, by omega, hb.cell 0 rfl⟩
          | 1, _ => exact ⟨1, by omega, hb.cell 1 rfl⟩
          | 2, _ => exact ⟨2, by omega, hb.cell 2 rfl⟩
          | 3, _ => exact ⟨3, by omega, hb.cell 3 rfl⟩
          | 4, _ => exact ⟨10, by omega, hb.cell 4 rfl⟩
          | 5, _ => exact ⟨255, by omega, hb.cell 5 rfl⟩
          | 6, _ => exact ⟨9007199254740992, by omega, hb.cell 6 rfl⟩
          | 7, _ => exact ⟨1073741824, by omega, hb.cell 7 rfl⟩)).mono ?_
        rintro e wd ⟨⟨r9, hr9, rfl⟩, hqd, hgd⟩
        have HQD := Lib.hid hqd; have HGD := Lib.hid (Gr.trans HGRwl.out (Gr.trans ((kp_alloc wl _).gr g) hgd))
        have HDG := Lib.hid (Digits_k 15 r9 (by have : (10 : Nat) ^ (15 + 1) = 10000000000000000 := by decide
                                                omega) (by omega) wd)
        clear hr9 hqd hgd
        go_wp2_with fail
        refine HDG.out.mono ?_
        rintro e w' ⟨⟨s9, rfl, hz9⟩, rfl⟩
        have HZ9 := Lib.hid hz9
        clear hz9
        go_wp2_with fail
        exact FIN.out _ _ HZ9.out (by omega) HQD.out HGD.out
      · have hli : (0 : Int) < (l : Int) := by omega
        have HOC := Lib.hid (One_q (n := n) (HQL.out.less (by omega)) (HP.out.gr HGRL.out))
        clear hl
        go_wp2_with fail
        refine HOC.out.mono ?_
        rintro e wB ⟨⟨s, rfl, hs, -⟩, hqB, hgB⟩
        have HZ := Lib.hid hs; have HQB := Lib.hid hqB; have HGB := Lib.hid (Gr.trans HGRL.out hgB)
        clear hs hqB hgB
        go_wp2_with fail
        exact FIN.out _ _ HZ.out (by omega) HQB.out HGB.out
    · go_wp2_with fail
      go_region_held3 (fun w' => w'.cell? ⟨tb, 0, none⟩ = some (.pointer (some ⟨g, 0, none⟩)))
        (first
          | exact (FACT.out _ (by first | assumption | exact Gr.drew HGRwl.out | exact HGRwl.out)).1
          | fail "no keep")
        (first
          | (go_at_call 37; refine (One_q (n := n) (hqA.less (by omega)) hpA).mono ?_; rintro e wB ⟨⟨s, rfl, hs, -⟩, hqB, hgB'⟩; have hgB : Gr g X0 wB := Gr.trans hgA hgB'; obtain ⟨x1, z1, a1⟩ := addB ⟨#[115, 105, 122, 101, 40, 34]⟩ s (m := 6) (by decide) hs (by omega); obtain ⟨x2, z2, a2⟩ := addB x1 ⟨#[34, 41]⟩ (n := 2) z1 (by decide) (by omega))
          | (go_at_call 77; refine (Paths_q g _ (HLW.out _ (Gr.drew HGRwl.out))).mono ?_; rintro e wA ⟨vA, rfl, hpA, hkA⟩; obtain ⟨aoA, capA, hvA, -, -⟩ := hpA.ex; subst hvA; have hgA : Gr g X0 wA := Gr.trans (Gr.drew HGRwl.out) (hkA.gr g); have hqA : Tq w0 wA g (n + 4) := (HQwl.out.keep (kp_drew _)).keep hkA)
          | fail "no arm")
      all_goals
        have HZ := Lib.hid z2; have HQB := Lib.hid hqB; have HGB := Lib.hid hgB
        clear hs z1 z2 a1 a2 hqB hgB hgB' hqA hpA hkA hgA
        go_wp2_with fail
        exact FIN.out _ _ HZ.out (by omega) HQB.out HGB.out
    · go_wp2_with fail
      go_region_held3 (fun w' => w'.cell? ⟨tb, 0, none⟩ = some (.pointer (some ⟨g, 0, none⟩)))
        (first
          | exact (FACT.out _ (by first | assumption | exact Gr.drew HGRwl.out | exact HGRwl.out)).1
          | fail "no keep")
        (first
          | (go_at_call 37; refine (One_q (n := n) (hqA.less (by omega)) hpA).mono ?_; rintro e wB ⟨⟨s, rfl, hs, -⟩, hqB, hgB'⟩; have hgB : Gr g X0 wB := Gr.trans hgA hgB'; obtain ⟨x1, z1, a1⟩ := addB ⟨#[104, 97, 115, 40, 34]⟩ s (m := 5) (by decide) hs (by omega); obtain ⟨x2, z2, a2⟩ := addB x1 ⟨#[34, 41]⟩ (n := 2) z1 (by decide) (by omega))
          | (go_at_call 77; refine (Paths_q g _ (HLW.out _ (Gr.drew HGRwl.out))).mono ?_; rintro e wA ⟨vA, rfl, hpA, hkA⟩; obtain ⟨aoA, capA, hvA, -, -⟩ := hpA.ex; subst hvA; have hgA : Gr g X0 wA := Gr.trans (Gr.drew HGRwl.out) (hkA.gr g); have hqA : Tq w0 wA g (n + 4) := (HQwl.out.keep (kp_drew _)).keep hkA)
          | fail "no arm")
      all_goals
        have HZ := Lib.hid z2; have HQB := Lib.hid hqB; have HGB := Lib.hid hgB
        clear hs z1 z2 a1 a2 hqB hgB hgB' hqA hpA hkA hgA
        go_wp2_with fail
        exact FIN.out _ _ HZ.out (by omega) HQB.out HGB.out
    · go_wp2_with fail
      go_region_held3 (fun w' => w'.cell? ⟨tb, 0, none⟩ = some (.pointer (some ⟨g, 0, none⟩)))
        (first
          | exact (FACT.out _ (by first | assumption | exact Gr.drew HGRwl.out | exact HGRwl.out)).1
          | fail "no keep")
        (first
          | (go_at_call 37; refine (One_q (n := n) (hqA.less (by omega)) hpA).mono ?_; rintro e wB ⟨⟨s, rfl, hs, -⟩, hqB, hgB'⟩; have hgB : Gr g X0 wB := Gr.trans hgA hgB'; obtain ⟨x1, z1, a1⟩ := addB ⟨#[101, 110, 118, 40, 34]⟩ s (m := 5) (by decide) hs (by omega); obtain ⟨x2, z2, a2⟩ := addB x1 ⟨#[34, 41]⟩ (n := 2) z1 (by decide) (by omega))
          | (go_at_call 97; refine (Variables_q g _ (HLW.out _ (Gr.drew HGRwl.out))).mono ?_; rintro e wA ⟨vA, rfl, hpA, hkA⟩; obtain ⟨aoA, capA, hvA, -, -⟩ := hpA.ex; subst hvA; have hgA : Gr g X0 wA := Gr.trans (Gr.drew HGRwl.out) (hkA.gr g); have hqA : Tq w0 wA g (n + 4) := (HQwl.out.keep (kp_drew _)).keep hkA)
          | fail "no arm")
      all_goals
        have HZ := Lib.hid z2; have HQB := Lib.hid hqB; have HGB := Lib.hid hgB
        clear hs z1 z2 a1 a2 hqB hgB hgB' hqA hpA hkA hgA
        go_wp2_with fail
        exact FIN.out _ _ HZ.out (by omega) HQB.out HGB.out
    · have HCC := Lib.hid (Chance_q (n := n + 3) HQL.out 1 5 (by omega) (by omega))
      go_wp2_with fail
      refine HCC.out.mono ?_
      rintro e wc ⟨⟨b5, rfl⟩, hq, hg⟩
      have HQwc : Hid (Tq w0 wc g (n + 3)) := Lib.hid hq
      have HGRwc : Hid (Gr g X0 wc) := Lib.hid (Gr.trans HGRL.out hg)
      obtain ⟨x0, x1, x2⟩ := FACT.out wc HGRwc.out
      clear hq hg
      cases b5 with
      | true =>
        go_wp2_with fail
        refine (Pick_q (n := n) (M := 63) ((HQwc.out.less (by omega)).keep (kp_alloc _ _)) (by omega) (by omega) (by have := HGW.out; have := HGRwc.out.size; omega) (by
          intro i hi
          have hb := Blk.new wc 3 #[.int .i64 0, .int .i64 1, .int .i64 63]
          match i, hi with
          | 0, _ => exact ⟨0, by omega, hb.cell 0 rfl⟩
          | 1, _ => exact ⟨1, by omega, hb.cell 1 rfl⟩
          | 2, _ => exact ⟨63, by omega, hb.cell 2 rfl⟩)).mono ?_
        rintro e wd ⟨⟨r9, hr9, rfl⟩, hqd, hgd⟩
        have HQD := Lib.hid hqd; have HGD := Lib.hid (Gr.trans HGRwc.out (Gr.trans ((kp_alloc wc _).gr g) hgd))
        have HDG := Lib.hid (Digits_k 1 r9 (by omega) (by omega) wd)
        clear hr9 hqd hgd
        go_wp2_with fail
        refine HDG.out.mono ?_
        rintro e w' ⟨⟨s9, rfl, hz9⟩, rfl⟩
        obtain ⟨y1, z1, a1⟩ := addB ⟨#[102, 108, 105, 112, 40]⟩ s9 (m := 5) (by decide) hz9 (by omega)
        obtain ⟨y2, z2, a2⟩ := addB y1 ⟨#[41]⟩ (n := 1) z1 (by decide) (by omega)
        have HZ := Lib.hid z2
        clear hz9 z1 z2
        go_wp2_with fail
        exact FIN.out _ _ HZ.out (by omega) HQD.out HGD.out
      | false =>
        go_wp2_with fail
        refine (Pick_q (n := n) (M := 9007199254740992) ((HQwc.out.less (by omega)).keep (kp_alloc _ _)) (by omega) (by omega) (by have := HGW.out; have := HGRwc.out.size; omega) (by
          intro i hi
          have hb := Blk.new wc 3 #[.int .i64 0, .int .i64 1, .int .i64 2, .int .i64 3, .int .i64 10, .int .i64 255, .int .i64 9007199254740992, .int .i64 1073741824]
          match i, hi with
          | 0, _ => exact ⟨0, by omega, hb.cell 0 rfl⟩
          | 1, _ => exact ⟨1, by omega, hb.cell 1 rfl⟩
          | 2, _ => exact ⟨2, by omega, hb.cell 2 rfl⟩
          | 3, _ => exact ⟨3, by omega, hb.cell 3 rfl⟩
          | 4, _ => exact ⟨10, by omega, hb.cell 4 rfl⟩
          | 5, _ => exact ⟨255, by omega, hb.cell 5 rfl⟩
          | 6, _ => exact ⟨9007199254740992, by omega, hb.cell 6 rfl⟩
          | 7, _ => exact ⟨1073741824, by omega, hb.cell 7 rfl⟩)).mono ?_
        rintro e wd ⟨⟨r9, hr9, rfl⟩, hqd, hgd⟩
        have HQD := Lib.hid hqd; have HGD := Lib.hid (Gr.trans HGRwc.out (Gr.trans ((kp_alloc wc _).gr g) hgd))
        have HDG := Lib.hid (Digits_k 15 r9 (by have : (10 : Nat) ^ (15 + 1) = 10000000000000000 := by decide
                                                omega) (by omega) wd)
        clear hr9 hqd hgd
        go_wp2_with fail
        refine HDG.out.mono ?_
        rintro e w' ⟨⟨s9, rfl, hz9⟩, rfl⟩
        have HZ9 := Lib.hid hz9
        clear hz9
        go_wp2_with fail
        exact FIN.out _ _ HZ9.out (by omega) HQD.out HGD.out
    · skip
      go_wp2_with fail
      refine (Pick_q (n := n) (M := 9007199254740992) ((HQwl.out.less (by omega)).keep (kp_alloc _ _)) (by omega) (by omega) (by have := HGW.out; have := HGRwl.out.size; omega) (by
        intro i hi
        have hb := Blk.new wl 3 #[.int .i64 0, .int .i64 1, .int .i64 2, .int .i64 3, .int .i64 10, .int .i64 255, .int .i64 9007199254740992, .int .i64 1073741824]
        match i, hi with
        | 0, _ => exact ⟨0, by omega, hb.cell 0 rfl⟩
        | 1, _ => exact ⟨1, by omega, hb.cell 1 rfl⟩
        | 2, _ => exact ⟨2, by omega, hb.cell 2 rfl⟩
        | 3, _ => exact ⟨3, by omega, hb.cell 3 rfl⟩
        | 4, _ => exact ⟨10, by omega, hb.cell 4 rfl⟩
        | 5, _ => exact ⟨255, by omega, hb.cell 5 rfl⟩
        | 6, _ => exact ⟨9007199254740992, by omega, hb.cell 6 rfl⟩
        | 7, _ => exact ⟨1073741824, by omega, hb.cell 7 rfl⟩)).mono ?_
      rintro e wd ⟨⟨r9, hr9, rfl⟩, hqd, hgd⟩
      have HQD := Lib.hid hqd; have HGD := Lib.hid (Gr.trans HGRwl.out (Gr.trans ((kp_alloc wl _).gr g) hgd))
      have HDG := Lib.hid (Digits_k 15 r9 (by have : (10 : Nat) ^ (15 + 1) = 10000000000000000 := by decide
                                              omega) (by omega) wd)
      clear hr9 hqd hgd
      go_wp2_with fail
      refine HDG.out.mono ?_
      rintro e w' ⟨⟨s9, rfl, hz9⟩, rfl⟩
      have HZ9 := Lib.hid hz9
      clear hz9
      go_wp2_with fail
      exact FIN.out _ _ HZ9.out (by omega) HQD.out HGD.out
    · skip
      go_wp2_with fail
      refine (Pick_q (n := n) (M := 9007199254740992) ((HQwl.out.less (by omega)).keep (kp_alloc _ _)) (by omega) (by omega) (by have := HGW.out; have := HGRwl.out.size; omega) (by
        intro i hi
        have hb := Blk.new wl 3 #[.int .i64 0, .int .i64 1, .int .i64 2, .int .i64 3, .int .i64 10, .int .i64 255, .int .i64 9007199254740992, .int .i64 1073741824]
        match i, hi with
        | 0, _ => exact ⟨0, by omega, hb.cell 0 rfl⟩
        | 1, _ => exact ⟨1, by omega, hb.cell 1 rfl⟩
        | 2, _ => exact ⟨2, by omega, hb.cell 2 rfl⟩
        | 3, _ => exact ⟨3, by omega, hb.cell 3 rfl⟩
        | 4, _ => exact ⟨10, by omega, hb.cell 4 rfl⟩
        | 5, _ => exact ⟨255, by omega, hb.cell 5 rfl⟩
        | 6, _ => exact ⟨9007199254740992, by omega, hb.cell 6 rfl⟩
        | 7, _ => exact ⟨1073741824, by omega, hb.cell 7 rfl⟩)).mono ?_
      rintro e wd ⟨⟨r9, hr9, rfl⟩, hqd, hgd⟩
      have HQD := Lib.hid hqd; have HGD := Lib.hid (Gr.trans HGRwl.out (Gr.trans ((kp_alloc wl _).gr g) hgd))
      have HDG := Lib.hid (Digits_k 15 r9 (by have : (10 : Nat) ^ (15 + 1) = 10000000000000000 := by decide
                                              omega) (by omega) wd)
      clear hr9 hqd hgd
      go_wp2_with fail
      refine HDG.out.mono ?_
      rintro e w' ⟨⟨s9, rfl, hz9⟩, rfl⟩
      have HZ9 := Lib.hid hz9
      clear hz9
      go_wp2_with fail
      exact FIN.out _ _ HZ9.out (by omega) HQD.out HGD.out
    · skip
      go_wp2_with fail
      refine (Pick_q (n := n) (M := 9007199254740992) ((HQwl.out.less (by omega)).keep (kp_alloc _ _)) (by omega) (by omega) (by have := HGW.out; have := HGRwl.out.size; omega) (by
        intro i hi
        have hb := Blk.new wl 3 #[.int .i64 0, .int .i64 1, .int .i64 2, .int .i64 3, .int .i64 10, .int .i64 255, .int .i64 9007199254740992, .int .i64 1073741824]
        match i, hi with
        | 0, _ => exact ⟨0, by omega, hb.cell 0 rfl⟩
        | 1, _ => exact ⟨1, by omega, hb.cell 1 rfl⟩
        | 2, _ => exact ⟨2, by omega, hb.cell 2 rfl⟩
        | 3, _ => exact ⟨3, by omega, hb.cell 3 rfl⟩
        | 4, _ => exact ⟨10, by omega, hb.cell 4 rfl⟩
        | 5, _ => exact ⟨255, by omega, hb.cell 5 rfl⟩
        | 6, _ => exact ⟨9007199254740992, by omega, hb.cell 6 rfl⟩
        | 7, _ => exact ⟨1073741824, by omega, hb.cell 7 rfl⟩)).mono ?_
      rintro e wd ⟨⟨r9, hr9, rfl⟩, hqd, hgd⟩
      have HQD := Lib.hid hqd; have HGD := Lib.hid (Gr.trans HGRwl.out (Gr.trans ((kp_alloc wl _).gr g) hgd))
      have HDG := Lib.hid (Digits_k 15 r9 (by have : (10 : Nat) ^ (15 + 1) = 10000000000000000 := by decide
                                              omega) (by omega) wd)
      clear hr9 hqd hgd
      go_wp2_with fail
      refine HDG.out.mono ?_
      rintro e w' ⟨⟨s9, rfl, hz9⟩, rfl⟩
      have HZ9 := Lib.hid hz9
      clear hz9
      go_wp2_with fail
      exact FIN.out _ _ HZ9.out (by omega) HQD.out HGD.out
  | false =>
    go_wp2_with fail
    refine (Next_q (n := n + 3 * D + 4) HQN.out 10 (by omega) (by omega)).mono ?_
    rintro e wm ⟨⟨r, hr, rfl⟩, hq, hg⟩
    have HQM : Hid (Tq w0 wm g (n + 3 * D + 4)) := Lib.hid hq
    have HGRM : Hid (Gr g X0 wm) := Lib.hid (Gr.trans HGRN.out hg)
    obtain ⟨x0, x1, x2⟩ := FACT.out wm HGRM.out
    clear hq hg
    rcases (show r = 0 ∨ r = 1 ∨ r = 2 ∨ r = 3 ∨ r = 4 ∨ r = 5 ∨ r = 6 ∨ r = 7 ∨ r = 8 ∨ r = 9 by omega) with rfl | rfl | rfl | rfl | rfl | rfl | rfl | rfl | rfl | rfl
    · skip
      go_wp2_with fail
      go_region_held3 (fun w' => w'.cell? ⟨tb, 0, none⟩ = some (.pointer (some ⟨g, 0, none⟩)))
        (first
          | exact (FACT.out _ (by first | assumption | exact Gr.drew HGRM.out | exact HGRM.out | exact Gr.trans (Gr.drew HGRM.out) ((kp_alloc _ _).gr g) | exact Gr.trans (by assumption) ((kp_alloc _ _).gr g))).1
          | fail "no keep")
        (first
          | (go_at_call 98; refine (HA.out _ (n + 2 * D + 3) hgB (hqB.less (by omega))).mono ?_; rintro e wC ⟨⟨s2, rfl, hs2⟩, hqC, hgC'⟩; have hgC : Gr g X0 wC := Gr.trans hgB hgC'; obtain ⟨y2, z2, a2⟩ := addB y1 s2 z1 hs2 (by have := HBB.out; omega))
          | (go_at_call 37; refine (One_q (n := n + 3 * D + 3) hqA hpA).mono ?_; rintro e wB ⟨⟨s, rfl, hs, -⟩, hqB, hgB'⟩; have hgB : Gr g X0 wB := Gr.trans hgA hgB'; obtain ⟨y1, z1, a1⟩ := addB s ⟨#[40]⟩ (n := 1) hs (by decide) (by omega))
          | (go_at_call 78; refine (Functions_q g _ (HLW.out _ (Gr.drew HGRM.out))).mono ?_; rintro e wA ⟨vA, rfl, hpA, hkA⟩; obtain ⟨aoA, capA, hvA, -, -⟩ := hpA.ex; subst hvA; have hgA : Gr g X0 wA := Gr.trans (Gr.drew HGRM.out) (hkA.gr g); have hqA : Tq w0 wA g (n + 3 * D + 3 + 1) := (HQM.out.keep (kp_drew _)).keep hkA)
          | fail "no arm")
      all_goals
        have HZC := Lib.hid z2; have HQC := Lib.hid hqC; have HGC := Lib.hid hgC
        obtain ⟨x0, x1, x2⟩ := FACT.out wC HGC.out
        clear hs hs2 z1 z2 a1 a2 hqB hgB hgB' hqA hpA hkA hgA hqC hgC hgC'
        go_wp2_with fail
        refine (Pick_q (n := n + 2 * D + 2) (M := 1) ((HQC.out.less (by omega)).keep (kp_alloc _ _)) (by omega) (by omega) (by have := HLW.out wC HGC.out; omega) (by
          intro i hi
          have hb := Blk.new wC 3 #[.int .i64 0, .int .i64 0, .int .i64 0, .int .i64 1]
          match i, hi with
          | 0, _ => exact ⟨0, by omega, hb.cell 0 rfl⟩
          | 1, _ => exact ⟨0, by omega, hb.cell 1 rfl⟩
          | 2, _ => exact ⟨0, by omega, hb.cell 2 rfl⟩
          | 3, _ => exact ⟨1, by omega, hb.cell 3 rfl⟩)).mono ?_
        rintro e wd ⟨⟨k0, hk0, rfl⟩, hqd, hgd⟩
        have HQD := Lib.hid hqd; have HGD := Lib.hid (Gr.trans HGC.out (Gr.trans ((kp_alloc wC _).gr g) hgd))
        clear hqd hgd x0 x1 x2
        go_wp2_with fail
        go_loopw [8, 9] (fun s i wr => ∃ (S : ByteArray) (k : Nat), s = .string S ∧ i = .int .i64 k ∧ k ≤ 1 ∧ S.size + k * (B + 2) ≤ 2 * B + 36 ∧ Tq w0 wr g (n + k * D) ∧ Gr g X0 wr) (fun _ i _ => (intOf i).toNat)
        case atStart =>
          refine ⟨y2, k0, rfl, rfl, hk0, ?_, HQD.out.less ?_, HGD.out⟩
          · have h1 := HZC.out
            rcases (show k0 = 0 ∨ k0 = 1 by omega) with rfl | rfl <;> omega
          · rcases (show k0 = 0 ∨ k0 = 1 by omega) with rfl | rfl <;> omega
        case round =>
          obtain ⟨S, k, rfl, rfl, hk, hsz, hqr, hgr⟩ := hrel
          rename World => wr
          have HSZ := Lib.hid hsz; have HQR := Lib.hid hqr; have HGR := Lib.hid hgr
          clear hsz hqr hgr
          rcases (show k = 0 ∨ k = 1 by omega) with rfl | rfl
          · obtain ⟨y3, z3, a3⟩ := addB S ⟨#[41]⟩ (m := 2 * B + 36) (n := 1) (by have := HSZ.out; omega) (by decide) (by have := HBB.out; omega)
            have HZ3 := Lib.hid z3
            clear z3
            go_wp2_with fail
            exact FIN.out _ _ HZ3.out (by omega) (HQR.out.less (by omega)) HGR.out
          · have HAC := Lib.hid (HA.out wr n HGR.out (HQR.out.less (by omega)))
            go_wp2_with fail
            refine HAC.out.mono ?_
            rintro e ws ⟨⟨s3, rfl, hs3⟩, hqs, hgs⟩
            obtain ⟨y3, z3, a3⟩ := addB ⟨#[44, 32]⟩ s3 (m := 2) (by decide) hs3 (by have := HBB.out; omega)
            obtain ⟨y4, z4, a4⟩ := addB S y3 (m := B + 34) (by have := HSZ.out; omega) z3 (by have := HBB.out; omega)
            have HZ4 := Lib.hid z4; have HQS := Lib.hid hqs; have HGS := Lib.hid (Gr.trans HGR.out hgs)
            clear hs3 hqs hgs z3 z4
            go_wp2_with fail
            go_roundw
            case rel => exact ⟨y4, 0, rfl, rfl, by omega, by have := HZ4.out; omega, HQS.out.less (by omega), HGS.out⟩
            case measure => simp [intOf]

    · skip
      go_wp2_with fail
      go_region_held3 (fun w' => w'.cell? ⟨tb, 0, none⟩ = some (.pointer (some ⟨g, 0, none⟩)))
        (first
          | exact (FACT.out _ (by first | assumption | exact Gr.drew HGRM.out | exact HGRM.out | exact Gr.trans (Gr.drew HGRM.out) ((kp_alloc _ _).gr g) | exact Gr.trans (by assumption) ((kp_alloc _ _).gr g))).1
          | fail "no keep")
        (first
          | (go_at_call 98; refine (HA.out _ (n + 2 * D + 3) hgB (hqB.less (by omega))).mono ?_; rintro e wC ⟨⟨s2, rfl, hs2⟩, hqC, hgC'⟩; have hgC : Gr g X0 wC := Gr.trans hgB hgC'; obtain ⟨y2, z2, a2⟩ := addB y1 s2 z1 hs2 (by have := HBB.out; omega))
          | (go_at_call 37; refine (One_q (n := n + 3 * D + 3) hqA hpA).mono ?_; rintro e wB ⟨⟨s, rfl, hs, -⟩, hqB, hgB'⟩; have hgB : Gr g X0 wB := Gr.trans hgA hgB'; obtain ⟨y1, z1, a1⟩ := addB s ⟨#[40]⟩ (n := 1) hs (by decide) (by omega))
          | (go_at_call 78; refine (Functions_q g _ (HLW.out _ (Gr.drew HGRM.out))).mono ?_; rintro e wA ⟨vA, rfl, hpA, hkA⟩; obtain ⟨aoA, capA, hvA, -, -⟩ := hpA.ex; subst hvA; have hgA : Gr g X0 wA := Gr.trans (Gr.drew HGRM.out) (hkA.gr g); have hqA : Tq w0 wA g (n + 3 * D + 3 + 1) := (HQM.out.keep (kp_drew _)).keep hkA)
          | fail "no arm")
      all_goals
        have HZC := Lib.hid z2; have HQC := Lib.hid hqC; have HGC := Lib.hid hgC
        obtain ⟨x0, x1, x2⟩ := FACT.out wC HGC.out
        clear hs hs2 z1 z2 a1 a2 hqB hgB hgB' hqA hpA hkA hgA hqC hgC hgC'
        go_wp2_with fail
        refine (Pick_q (n := n + 2 * D + 2) (M := 1) ((HQC.out.less (by omega)).keep (kp_alloc _ _)) (by omega) (by omega) (by have := HLW.out wC HGC.out; omega) (by
          intro i hi
          have hb := Blk.new wC 3 #[.int .i64 0, .int .i64 0, .int .i64 0, .int .i64 1]
          match i, hi with
          | 0, _ => exact ⟨0, by omega, hb.cell 0 rfl⟩
          | 1, _ => exact ⟨0, by omega, hb.cell 1 rfl⟩
          | 2, _ => exact ⟨0, by omega, hb.cell 2 rfl⟩
          | 3, _ => exact ⟨1, by omega, hb.cell 3 rfl⟩)).mono ?_
        rintro e wd ⟨⟨k0, hk0, rfl⟩, hqd, hgd⟩
        have HQD := Lib.hid hqd; have HGD := Lib.hid (Gr.trans HGC.out (Gr.trans ((kp_alloc wC _).gr g) hgd))
        clear hqd hgd x0 x1 x2
        go_wp2_with fail
        go_loopw [8, 9] (fun s i wr => ∃ (S : ByteArray) (k : Nat), s = .string S ∧ i = .int .i64 k ∧ k ≤ 1 ∧ S.size + k * (B + 2) ≤ 2 * B + 36 ∧ Tq w0 wr g (n + k * D) ∧ Gr g X0 wr) (fun _ i _ => (intOf i).toNat)
        case atStart =>
          refine ⟨y2, k0, rfl, rfl, hk0, ?_, HQD.out.less ?_, HGD.out⟩
          · have h1 := HZC.out
            rcases (show k0 = 0 ∨ k0 = 1 by omega) with rfl | rfl <;> omega
          · rcases (show k0 = 0 ∨ k0 = 1 by omega) with rfl | rfl <;> omega
        case round =>
          obtain ⟨S, k, rfl, rfl, hk, hsz, hqr, hgr⟩ := hrel
          rename World => wr
          have HSZ := Lib.hid hsz; have HQR := Lib.hid hqr; have HGR := Lib.hid hgr
          clear hsz hqr hgr
          rcases (show k = 0 ∨ k = 1 by omega) with rfl | rfl
          · obtain ⟨y3, z3, a3⟩ := addB S ⟨#[41]⟩ (m := 2 * B + 36) (n := 1) (by have := HSZ.out; omega) (by decide) (by have := HBB.out; omega)
            have HZ3 := Lib.hid z3
            clear z3
            go_wp2_with fail
            exact FIN.out _ _ HZ3.out (by omega) (HQR.out.less (by omega)) HGR.out
          · have HAC := Lib.hid (HA.out wr n HGR.out (HQR.out.less (by omega)))
            go_wp2_with fail
            refine HAC.out.mono ?_
            rintro e ws ⟨⟨s3, rfl, hs3⟩, hqs, hgs⟩
            obtain ⟨y3, z3, a3⟩ := addB ⟨#[44, 32]⟩ s3 (m := 2) (by decide) hs3 (by have := HBB.out; omega)
            obtain ⟨y4, z4, a4⟩ := addB S y3 (m := B + 34) (by have := HSZ.out; omega) z3 (by have := HBB.out; omega)
            have HZ4 := Lib.hid z4; have HQS := Lib.hid hqs; have HGS := Lib.hid (Gr.trans HGR.out hgs)
            clear hs3 hqs hgs z3 z4
            go_wp2_with fail
            go_roundw
            case rel => exact ⟨y4, 0, rfl, rfl, by omega, by have := HZ4.out; omega, HQS.out.less (by omega), HGS.out⟩
            case measure => simp [intOf]

    · skip
      go_wp2_with fail
      go_region_held3 (fun w' => w'.cell? ⟨tb, 0, none⟩ = some (.pointer (some ⟨g, 0, none⟩)))
        (first
          | exact (FACT.out _ (by first | assumption | exact Gr.drew HGRM.out | exact HGRM.out | exact Gr.trans (Gr.drew HGRM.out) ((kp_alloc _ _).gr g) | exact Gr.trans (by assumption) ((kp_alloc _ _).gr g))).1
          | fail "no keep")
        (first
          | (go_at_call 98; refine (HA.out _ (n + 2 * D + 3) hgB (hqB.less (by omega))).mono ?_; rintro e wC ⟨⟨s2, rfl, hs2⟩, hqC, hgC'⟩; have hgC : Gr g X0 wC := Gr.trans hgB hgC'; obtain ⟨y2, z2, a2⟩ := addB y1 s2 z1 hs2 (by have := HBB.out; omega))
          | (go_at_call 37; refine (One_q (n := n + 3 * D + 3) hqA hpA).mono ?_; rintro e wB ⟨⟨s, rfl, hs, -⟩, hqB, hgB'⟩; have hgB : Gr g X0 wB := Gr.trans hgA hgB'; obtain ⟨y1, z1, a1⟩ := addB s ⟨#[40]⟩ (n := 1) hs (by decide) (by omega))
          | (go_at_call 78; refine (Functions_q g _ (HLW.out _ (Gr.drew HGRM.out))).mono ?_; rintro e wA ⟨vA, rfl, hpA, hkA⟩; obtain ⟨aoA, capA, hvA, -, -⟩ := hpA.ex; subst hvA; have hgA : Gr g X0 wA := Gr.trans (Gr.drew HGRM.out) (hkA.gr g); have hqA : Tq w0 wA g (n + 3 * D + 3 + 1) := (HQM.out.keep (kp_drew _)).keep hkA)
          | fail "no arm")
      all_goals
        have HZC := Lib.hid z2; have HQC := Lib.hid hqC; have HGC := Lib.hid hgC
        obtain ⟨x0, x1, x2⟩ := FACT.out wC HGC.out
        clear hs hs2 z1 z2 a1 a2 hqB hgB hgB' hqA hpA hkA hgA hqC hgC hgC'
        go_wp2_with fail
        refine (Pick_q (n := n + 2 * D + 2) (M := 1) ((HQC.out.less (by omega)).keep (kp_alloc _ _)) (by omega) (by omega) (by have := HLW.out wC HGC.out; omega) (by
          intro i hi
          have hb := Blk.new wC 3 #[.int .i64 0, .int .i64 0, .int .i64 0, .int .i64 1]
          match i, hi with
          | 0, _ => exact ⟨0, by omega, hb.cell 0 rfl⟩
          | 1, _ => exact ⟨0, by omega, hb.cell 1 rfl⟩
          | 2, _ => exact ⟨0, by omega, hb.cell 2 rfl⟩
          | 3, _ => exact ⟨1, by omega, hb.cell 3 rfl⟩)).mono ?_
        rintro e wd ⟨⟨k0, hk0, rfl⟩, hqd, hgd⟩
        have HQD := Lib.hid hqd; have HGD := Lib.hid (Gr.trans HGC.out (Gr.trans ((kp_alloc wC _).gr g) hgd))
        clear hqd hgd x0 x1 x2
        go_wp2_with fail
        go_loopw [8, 9] (fun s i wr => ∃ (S : ByteArray) (k : Nat), s = .string S ∧ i = .int .i64 k ∧ k ≤ 1 ∧ S.size + k * (B + 2) ≤ 2 * B + 36 ∧ Tq w0 wr g (n + k * D) ∧ Gr g X0 wr) (fun _ i _ => (intOf i).toNat)
        case atStart =>
          refine ⟨y2, k0, rfl, rfl, hk0, ?_, HQD.out.less ?_, HGD.out⟩
          · have h1 := HZC.out
            rcases (show k0 = 0 ∨ k0 = 1 by omega) with rfl | rfl <;> omega
          · rcases (show k0 = 0 ∨ k0 = 1 by omega) with rfl | rfl <;> omega
        case round =>
          obtain ⟨S, k, rfl, rfl, hk, hsz, hqr, hgr⟩ := hrel
          rename World => wr
          have HSZ := Lib.hid hsz; have HQR := Lib.hid hqr; have HGR := Lib.hid hgr
          clear hsz hqr hgr
          rcases (show k = 0 ∨ k = 1 by omega) with rfl | rfl
          · obtain ⟨y3, z3, a3⟩ := addB S ⟨#[41]⟩ (m := 2 * B + 36) (n := 1) (by have := HSZ.out; omega) (by decide) (by have := HBB.out; omega)
            have HZ3 := Lib.hid z3
            clear z3
            go_wp2_with fail
            exact FIN.out _ _ HZ3.out (by omega) (HQR.out.less (by omega)) HGR.out
          · have HAC := Lib.hid (HA.out wr n HGR.out (HQR.out.less (by omega)))
            go_wp2_with fail
            refine HAC.out.mono ?_
            rintro e ws ⟨⟨s3, rfl, hs3⟩, hqs, hgs⟩
            obtain ⟨y3, z3, a3⟩ := addB ⟨#[44, 32]⟩ s3 (m := 2) (by decide) hs3 (by have := HBB.out; omega)
            obtain ⟨y4, z4, a4⟩ := addB S y3 (m := B + 34) (by have := HSZ.out; omega) z3 (by have := HBB.out; omega)
            have HZ4 := Lib.hid z4; have HQS := Lib.hid hqs; have HGS := Lib.hid (Gr.trans HGR.out hgs)
            clear hs3 hqs hgs z3 z4
            go_wp2_with fail
            go_roundw
            case rel => exact ⟨y4, 0, rfl, rfl, by omega, by have := HZ4.out; omega, HQS.out.less (by omega), HGS.out⟩
            case measure => simp [intOf]

    · skip
      have HA1 := Lib.hid (HA.out wm (n + 2 * D + 4) HGRM.out (HQM.out.less (by omega)))
      go_wp2_with fail
      refine HA1.out.mono ?_
      rintro e w1 ⟨⟨s1, rfl, hs1⟩, hq1, hg1⟩
      obtain ⟨y1, z1, a1⟩ := addB ⟨#[105, 102, 32]⟩ s1 (m := 3) (by decide) hs1 (by have := HBB.out; omega)
      obtain ⟨y2, z2, a2⟩ := addB y1 ⟨#[32, 116, 104, 101, 110, 32]⟩ (n := 6) z1 (by decide) (by have := HBB.out; omega)
      have HG1 := Lib.hid (Gr.trans HGRM.out hg1)
      have HA2 := Lib.hid (HA.out w1 (n + D + 4) HG1.out (hq1.less (by omega)))
      have HZ2 := Lib.hid z2
      clear hs1 hq1 hg1 z1 z2
      go_wp2_with fail
      refine HA2.out.mono ?_
      rintro e w2 ⟨⟨s2, rfl, hs2⟩, hq2, hg2⟩
      obtain ⟨y3, z3, a3⟩ := addB y2 s2 HZ2.out hs2 (by have := HBB.out; omega)
      obtain ⟨y4, z4, a4⟩ := addB y3 ⟨#[32, 101, 108, 115, 101, 32, 40]⟩ (n := 7) z3 (by decide) (by have := HBB.out; omega)
      have HG2 := Lib.hid (Gr.trans HG1.out hg2)
      have HA3 := Lib.hid (HA.out w2 (n + 4) HG2.out (hq2.less (by omega)))
      have HZ4 := Lib.hid z4
      clear hs2 hq2 hg2 z3 z4
      go_wp2_with fail
      refine HA3.out.mono ?_
      rintro e w3 ⟨⟨s3, rfl, hs3⟩, hq3, hg3⟩
      obtain ⟨y5, z5, a5⟩ := addB y4 s3 HZ4.out hs3 (by have := HBB.out; omega)
      obtain ⟨y6, z6, a6⟩ := addB y5 ⟨#[41]⟩ (n := 1) z5 (by decide) (by have := HBB.out; omega)
      have HZ6 := Lib.hid z6; have HQ3 := Lib.hid hq3; have HG3 := Lib.hid (Gr.trans HG2.out hg3)
      clear hs3 hq3 hg3 z5 z6
      go_wp2_with fail
      exact FIN.out _ _ HZ6.out (by omega) (HQ3.out.less (by omega)) HG3.out

    · skip
      go_wp2_with fail
      go_region_held3 (fun w' => w'.cell? ⟨tb, 0, none⟩ = some (.pointer (some ⟨g, 0, none⟩)))
        (first
          | exact (FACT.out _ (by first | assumption | exact Gr.drew HGRM.out | exact HGRM.out | exact Gr.trans (Gr.drew HGRM.out) ((kp_alloc _ _).gr g) | exact Gr.trans (by assumption) ((kp_alloc _ _).gr g))).1
          | fail "no keep")
        (first
          | (go_at_call 98; refine (HA.out _ (n + 2 * D + 3) hgB (hqB.less (by omega))).mono ?_; rintro e wC ⟨⟨s2, rfl, hs2⟩, hqC, hgC'⟩; have hgC : Gr g X0 wC := Gr.trans hgB hgC'; obtain ⟨y3, z3, a3⟩ := addB y2 s2 z2 hs2 (by have := HBB.out; omega); obtain ⟨y4, z4, a4⟩ := addB y3 ⟨#[41]⟩ (n := 1) z3 (by decide) (by have := HBB.out; omega))
          | (go_at_call 37; refine (One_q (n := n + 3 * D + 3) hqA hpA).mono ?_; rintro e wB ⟨⟨s, rfl, hs, -⟩, hqB, hgB'⟩; have hgB : Gr g X0 wB := Gr.trans hgA hgB'; obtain ⟨y1, z1, a1⟩ := addB ⟨#[114, 101, 97, 100, 40, 34]⟩ s (m := 6) (by decide) hs (by omega); obtain ⟨y2, z2, a2⟩ := addB y1 ⟨#[34, 44, 32]⟩ (n := 3) z1 (by decide) (by omega))
          | (go_at_call 77; refine (Paths_q g _ (HLW.out _ (Gr.drew HGRM.out))).mono ?_; rintro e wA ⟨vA, rfl, hpA, hkA⟩; obtain ⟨aoA, capA, hvA, -, -⟩ := hpA.ex; subst hvA; have hgA : Gr g X0 wA := Gr.trans (Gr.drew HGRM.out) (hkA.gr g); have hqA : Tq w0 wA g (n + 3 * D + 3 + 1) := (HQM.out.keep (kp_drew _)).keep hkA)
          | fail "no arm")
      all_goals
        have HZC := Lib.hid z4; have HQC := Lib.hid hqC; have HGC := Lib.hid hgC
        clear hs hs2 z1 z2 z3 z4 a1 a2 a3 a4 hqB hgB hgB' hqA hpA hkA hgA hqC hgC hgC'
        go_wp2_with fail
        exact FIN.out _ _ HZC.out (by omega) (HQC.out.less (by omega)) HGC.out

    · skip
      have HA1 := Lib.hid (HA.out wm (n + 2 * D + 4) HGRM.out (HQM.out.less (by omega)))
      go_wp2_with fail
      refine HA1.out.mono ?_
      rintro e w1 ⟨⟨s1, rfl, hs1⟩, hq1, hg1⟩
      obtain ⟨y1, z1, a1⟩ := addB ⟨#[40]⟩ s1 (m := 1) (by decide) hs1 (by have := HBB.out; omega)
      obtain ⟨y2, z2, a2⟩ := addB y1 ⟨#[41]⟩ (n := 1) z1 (by decide) (by have := HBB.out; omega)
      have HZ2 := Lib.hid z2; have HQ1 := Lib.hid hq1; have HG1 := Lib.hid (Gr.trans HGRM.out hg1)
      clear hs1 hq1 hg1 z1 z2
      go_wp2_with fail
      exact FIN.out _ _ HZ2.out (by omega) (HQ1.out.less (by omega)) HG1.out

    · skip
      have HPS : Hid (Ps g (wm.alloc (.cells #[.string ⟨#[43]⟩, .string ⟨#[45]⟩, .string ⟨#[42]⟩, .string ⟨#[47]⟩, .string ⟨#[37]⟩, .string ⟨#[60]⟩, .string ⟨#[61, 61]⟩] 9)) (.slice (some ⟨wm.heap.size, 0, none⟩) 7 7) [⟨#[43]⟩, ⟨#[45]⟩, ⟨#[42]⟩, ⟨#[47]⟩, ⟨#[37]⟩, ⟨#[60]⟩, ⟨#[61, 61]⟩]) := Lib.hid (Ps.blk (ss := [⟨#[43]⟩, ⟨#[45]⟩, ⟨#[42]⟩, ⟨#[47]⟩, ⟨#[37]⟩, ⟨#[60]⟩, ⟨#[61, 61]⟩]) (Blk.new _ _ _) (by have := HLW.out _ HGRM.out; omega) (by decide) (by decide))
      have HGWL : Hid (Gr g X0 (wm.alloc (.cells #[.string ⟨#[43]⟩, .string ⟨#[45]⟩, .string ⟨#[42]⟩, .string ⟨#[47]⟩, .string ⟨#[37]⟩, .string ⟨#[60]⟩, .string ⟨#[61, 61]⟩] 9)).drew) := Lib.hid (Gr.drew (Gr.trans HGRM.out ((kp_alloc wm _).gr g)))
      have HQWL : Hid (Tq w0 (wm.alloc (.cells #[.string ⟨#[43]⟩, .string ⟨#[45]⟩, .string ⟨#[42]⟩, .string ⟨#[47]⟩, .string ⟨#[37]⟩, .string ⟨#[60]⟩, .string ⟨#[61, 61]⟩] 9)).drew g (n + 3 * D + 4)) := Lib.hid ((HQM.out.keep (kp_alloc wm _)).keep (kp_drew _))
      go_wp2_with fail
      go_region_held3 (fun w' => w'.cell? ⟨tb, 0, none⟩ = some (.pointer (some ⟨g, 0, none⟩)))
        (first
          | exact (FACT.out _ (by first | assumption | exact Gr.drew HGRM.out | exact HGRM.out | exact Gr.trans (Gr.drew HGRM.out) ((kp_alloc _ _).gr g) | exact Gr.trans (by assumption) ((kp_alloc _ _).gr g))).1
          | exact (FACT.out _ HGWL.out).1
          | exact (FACT.out _ (Gr.trans HGRM.out ((kp_alloc wm _).gr g))).1
          | fail "no keep")
        (first
          | (go_at_call 37; refine (One_q (n := n + 2 * D + 3) (hqC.less (by omega)) (HPS.out.gr (Gr.trans ((kp_drew _).gr g) hgCa'))).mono ?_; rintro e wB ⟨⟨s, rfl, hs, -⟩, hqB, hgB'⟩; have hgB : Gr g X0 wB := Gr.trans hgC hgB'; obtain ⟨y3, z3, a3⟩ := addB y2 s z2 hs (by have := HBB.out; omega); obtain ⟨y4, z4, a4⟩ := addB y3 ⟨#[32, 40]⟩ (n := 2) z3 (by decide) (by have := HBB.out; omega))
          | (go_at_call 37; refine (One_q (n := n + 2 * D + 3) ((hqC.less (by omega)).keep (kp_alloc _ _)) (Ps.blk (ss := [⟨#[43]⟩, ⟨#[45]⟩, ⟨#[42]⟩, ⟨#[47]⟩, ⟨#[37]⟩, ⟨#[60]⟩, ⟨#[61, 61]⟩]) (Blk.new _ _ _) (by have := HLW.out _ hgC; have := hgCb'.size; omega) (by decide) (by decide))).mono ?_; rintro e wB ⟨⟨s, rfl, hs, -⟩, hqB, hgB'⟩; have hgB : Gr g X0 wB := Gr.trans (Gr.trans hgC ((kp_alloc _ _).gr g)) hgB'; obtain ⟨y3, z3, a3⟩ := addB y2 s z2 hs (by have := HBB.out; omega); obtain ⟨y4, z4, a4⟩ := addB y3 ⟨#[32, 40]⟩ (n := 2) z3 (by decide) (by have := HBB.out; omega))
          | (go_at_call 98; refine (HA.out _ (n + D + 3) hgB (hqB.less (by omega))).mono ?_; rintro e wE ⟨⟨s2, rfl, hs2⟩, hqE, hgE'⟩; have hgE : Gr g X0 wE := Gr.trans hgB hgE'; obtain ⟨y5, z5, a5⟩ := addB y4 s2 z4 hs2 (by have := HBB.out; omega); obtain ⟨y6, z6, a6⟩ := addB y5 ⟨#[41]⟩ (n := 1) z5 (by decide) (by have := HBB.out; omega))
          | (go_at_call 98; refine (HA.out _ (n + 2 * D + 4) HGWL.out (HQWL.out.less (by omega))).mono ?_; rintro e wC ⟨⟨s1, rfl, hs1⟩, hqC, hgCa'⟩; have hgC : Gr g X0 wC := Gr.trans HGWL.out hgCa'; obtain ⟨y1, z1, a1⟩ := addB ⟨#[40]⟩ s1 (m := 1) (by decide) hs1 (by have := HBB.out; omega); obtain ⟨y2, z2, a2⟩ := addB y1 ⟨#[41, 32]⟩ (n := 2) z1 (by decide) (by have := HBB.out; omega))
          | (go_at_call 98; refine (HA.out _ (n + 2 * D + 4) (Gr.drew HGRM.out) ((HQM.out.keep (kp_drew _)).less (by omega))).mono ?_; rintro e wC ⟨⟨s1, rfl, hs1⟩, hqC, hgCb'⟩; have hgC : Gr g X0 wC := Gr.trans (Gr.drew HGRM.out) hgCb'; obtain ⟨y1, z1, a1⟩ := addB ⟨#[40]⟩ s1 (m := 1) (by decide) hs1 (by have := HBB.out; omega); obtain ⟨y2, z2, a2⟩ := addB y1 ⟨#[41, 32]⟩ (n := 2) z1 (by decide) (by have := HBB.out; omega))
          | fail "no arm")
      all_goals
        have HZE := Lib.hid z6; have HQE := Lib.hid hqE; have HGE := Lib.hid hgE
        clear hs hs1 hs2 z1 z2 z3 z4 z5 z6 a1 a2 a3 a4 a5 a6 hqB hgB hgB' hqC hgC hqE hgE hgE'
        (first | clear hgCa' | clear hgCb')
        go_wp2_with fail
        exact FIN.out _ _ HZE.out (by omega) (HQE.out.less (by omega)) HGE.out

    · skip
      have HPS : Hid (Ps g (wm.alloc (.cells #[.string ⟨#[43]⟩, .string ⟨#[45]⟩, .string ⟨#[42]⟩, .string ⟨#[47]⟩, .string ⟨#[37]⟩, .string ⟨#[60]⟩, .string ⟨#[61, 61]⟩] 9)) (.slice (some ⟨wm.heap.size, 0, none⟩) 7 7) [⟨#[43]⟩, ⟨#[45]⟩, ⟨#[42]⟩, ⟨#[47]⟩, ⟨#[37]⟩, ⟨#[60]⟩, ⟨#[61, 61]⟩]) := Lib.hid (Ps.blk (ss := [⟨#[43]⟩, ⟨#[45]⟩, ⟨#[42]⟩, ⟨#[47]⟩, ⟨#[37]⟩, ⟨#[60]⟩, ⟨#[61, 61]⟩]) (Blk.new _ _ _) (by have := HLW.out _ HGRM.out; omega) (by decide) (by decide))
      have HGWL : Hid (Gr g X0 (wm.alloc (.cells #[.string ⟨#[43]⟩, .string ⟨#[45]⟩, .string ⟨#[42]⟩, .string ⟨#[47]⟩, .string ⟨#[37]⟩, .string ⟨#[60]⟩, .string ⟨#[61, 61]⟩] 9)).drew) := Lib.hid (Gr.drew (Gr.trans HGRM.out ((kp_alloc wm _).gr g)))
      have HQWL : Hid (Tq w0 (wm.alloc (.cells #[.string ⟨#[43]⟩, .string ⟨#[45]⟩, .string ⟨#[42]⟩, .string ⟨#[47]⟩, .string ⟨#[37]⟩, .string ⟨#[60]⟩, .string ⟨#[61, 61]⟩] 9)).drew g (n + 3 * D + 4)) := Lib.hid ((HQM.out.keep (kp_alloc wm _)).keep (kp_drew _))
      go_wp2_with fail
      go_region_held3 (fun w' => w'.cell? ⟨tb, 0, none⟩ = some (.pointer (some ⟨g, 0, none⟩)))
        (first
          | exact (FACT.out _ (by first | assumption | exact Gr.drew HGRM.out | exact HGRM.out | exact Gr.trans (Gr.drew HGRM.out) ((kp_alloc _ _).gr g) | exact Gr.trans (by assumption) ((kp_alloc _ _).gr g))).1
          | exact (FACT.out _ HGWL.out).1
          | exact (FACT.out _ (Gr.trans HGRM.out ((kp_alloc wm _).gr g))).1
          | fail "no keep")
        (first
          | (go_at_call 37; refine (One_q (n := n + 2 * D + 3) (hqC.less (by omega)) (HPS.out.gr (Gr.trans ((kp_drew _).gr g) hgCa'))).mono ?_; rintro e wB ⟨⟨s, rfl, hs, -⟩, hqB, hgB'⟩; have hgB : Gr g X0 wB := Gr.trans hgC hgB'; obtain ⟨y3, z3, a3⟩ := addB y2 s z2 hs (by have := HBB.out; omega); obtain ⟨y4, z4, a4⟩ := addB y3 ⟨#[32, 40]⟩ (n := 2) z3 (by decide) (by have := HBB.out; omega))
          | (go_at_call 37; refine (One_q (n := n + 2 * D + 3) ((hqC.less (by omega)).keep (kp_alloc _ _)) (Ps.blk (ss := [⟨#[43]⟩, ⟨#[45]⟩, ⟨#[42]⟩, ⟨#[47]⟩, ⟨#[37]⟩, ⟨#[60]⟩, ⟨#[61, 61]⟩]) (Blk.new _ _ _) (by have := HLW.out _ hgC; have := hgCb'.size; omega) (by decide) (by decide))).mono ?_; rintro e wB ⟨⟨s, rfl, hs, -⟩, hqB, hgB'⟩; have hgB : Gr g X0 wB := Gr.trans (Gr.trans hgC ((kp_alloc _ _).gr g)) hgB'; obtain ⟨y3, z3, a3⟩ := addB y2 s z2 hs (by have := HBB.out; omega); obtain ⟨y4, z4, a4⟩ := addB y3 ⟨#[32, 40]⟩ (n := 2) z3 (by decide) (by have := HBB.out; omega))
          | (go_at_call 98; refine (HA.out _ (n + D + 3) hgB (hqB.less (by omega))).mono ?_; rintro e wE ⟨⟨s2, rfl, hs2⟩, hqE, hgE'⟩; have hgE : Gr g X0 wE := Gr.trans hgB hgE'; obtain ⟨y5, z5, a5⟩ := addB y4 s2 z4 hs2 (by have := HBB.out; omega); obtain ⟨y6, z6, a6⟩ := addB y5 ⟨#[41]⟩ (n := 1) z5 (by decide) (by have := HBB.out; omega))
          | (go_at_call 98; refine (HA.out _ (n + 2 * D + 4) HGWL.out (HQWL.out.less (by omega))).mono ?_; rintro e wC ⟨⟨s1, rfl, hs1⟩, hqC, hgCa'⟩; have hgC : Gr g X0 wC := Gr.trans HGWL.out hgCa'; obtain ⟨y1, z1, a1⟩ := addB ⟨#[40]⟩ s1 (m := 1) (by decide) hs1 (by have := HBB.out; omega); obtain ⟨y2, z2, a2⟩ := addB y1 ⟨#[41, 32]⟩ (n := 2) z1 (by decide) (by have := HBB.out; omega))
          | (go_at_call 98; refine (HA.out _ (n + 2 * D + 4) (Gr.drew HGRM.out) ((HQM.out.keep (kp_drew _)).less (by omega))).mono ?_; rintro e wC ⟨⟨s1, rfl, hs1⟩, hqC, hgCb'⟩; have hgC : Gr g X0 wC := Gr.trans (Gr.drew HGRM.out) hgCb'; obtain ⟨y1, z1, a1⟩ := addB ⟨#[40]⟩ s1 (m := 1) (by decide) hs1 (by have := HBB.out; omega); obtain ⟨y2, z2, a2⟩ := addB y1 ⟨#[41, 32]⟩ (n := 2) z1 (by decide) (by have := HBB.out; omega))
          | fail "no arm")
      all_goals
        have HZE := Lib.hid z6; have HQE := Lib.hid hqE; have HGE := Lib.hid hgE
        clear hs hs1 hs2 z1 z2 z3 z4 z5 z6 a1 a2 a3 a4 a5 a6 hqB hgB hgB' hqC hgC hqE hgE hgE'
        (first | clear hgCa' | clear hgCb')
        go_wp2_with fail
        exact FIN.out _ _ HZE.out (by omega) (HQE.out.less (by omega)) HGE.out

    · skip
      have HPS : Hid (Ps g (wm.alloc (.cells #[.string ⟨#[43]⟩, .string ⟨#[45]⟩, .string ⟨#[42]⟩, .string ⟨#[47]⟩, .string ⟨#[37]⟩, .string ⟨#[60]⟩, .string ⟨#[61, 61]⟩] 9)) (.slice (some ⟨wm.heap.size, 0, none⟩) 7 7) [⟨#[43]⟩, ⟨#[45]⟩, ⟨#[42]⟩, ⟨#[47]⟩, ⟨#[37]⟩, ⟨#[60]⟩, ⟨#[61, 61]⟩]) := Lib.hid (Ps.blk (ss := [⟨#[43]⟩, ⟨#[45]⟩, ⟨#[42]⟩, ⟨#[47]⟩, ⟨#[37]⟩, ⟨#[60]⟩, ⟨#[61, 61]⟩]) (Blk.new _ _ _) (by have := HLW.out _ HGRM.out; omega) (by decide) (by decide))
      have HGWL : Hid (Gr g X0 (wm.alloc (.cells #[.string ⟨#[43]⟩, .string ⟨#[45]⟩, .string ⟨#[42]⟩, .string ⟨#[47]⟩, .string ⟨#[37]⟩, .string ⟨#[60]⟩, .string ⟨#[61, 61]⟩] 9)).drew) := Lib.hid (Gr.drew (Gr.trans HGRM.out ((kp_alloc wm _).gr g)))
      have HQWL : Hid (Tq w0 (wm.alloc (.cells #[.string ⟨#[43]⟩, .string ⟨#[45]⟩, .string ⟨#[42]⟩, .string ⟨#[47]⟩, .string ⟨#[37]⟩, .string ⟨#[60]⟩, .string ⟨#[61, 61]⟩] 9)).drew g (n + 3 * D + 4)) := Lib.hid ((HQM.out.keep (kp_alloc wm _)).keep (kp_drew _))
      go_wp2_with fail
      go_region_held3 (fun w' => w'.cell? ⟨tb, 0, none⟩ = some (.pointer (some ⟨g, 0, none⟩)))
        (first
          | exact (FACT.out _ (by first | assumption | exact Gr.drew HGRM.out | exact HGRM.out | exact Gr.trans (Gr.drew HGRM.out) ((kp_alloc _ _).gr g) | exact Gr.trans (by assumption) ((kp_alloc _ _).gr g))).1
          | exact (FACT.out _ HGWL.out).1
          | exact (FACT.out _ (Gr.trans HGRM.out ((kp_alloc wm _).gr g))).1
          | fail "no keep")
        (first
          | (go_at_call 37; refine (One_q (n := n + 2 * D + 3) (hqC.less (by omega)) (HPS.out.gr (Gr.trans ((kp_drew _).gr g) hgCa'))).mono ?_; rintro e wB ⟨⟨s, rfl, hs, -⟩, hqB, hgB'⟩; have hgB : Gr g X0 wB := Gr.trans hgC hgB'; obtain ⟨y3, z3, a3⟩ := addB y2 s z2 hs (by have := HBB.out; omega); obtain ⟨y4, z4, a4⟩ := addB y3 ⟨#[32, 40]⟩ (n := 2) z3 (by decide) (by have := HBB.out; omega))
          | (go_at_call 37; refine (One_q (n := n + 2 * D + 3) ((hqC.less (by omega)).keep (kp_alloc _ _)) (Ps.blk (ss := [⟨#[43]⟩, ⟨#[45]⟩, ⟨#[42]⟩, ⟨#[47]⟩, ⟨#[37]⟩, ⟨#[60]⟩, ⟨#[61, 61]⟩]) (Blk.new _ _ _) (by have := HLW.out _ hgC; have := hgCb'.size; omega) (by decide) (by decide))).mono ?_; rintro e wB ⟨⟨s, rfl, hs, -⟩, hqB, hgB'⟩; have hgB : Gr g X0 wB := Gr.trans (Gr.trans hgC ((kp_alloc _ _).gr g)) hgB'; obtain ⟨y3, z3, a3⟩ := addB y2 s z2 hs (by have := HBB.out; omega); obtain ⟨y4, z4, a4⟩ := addB y3 ⟨#[32, 40]⟩ (n := 2) z3 (by decide) (by have := HBB.out; omega))
          | (go_at_call 98; refine (HA.out _ (n + D + 3) hgB (hqB.less (by omega))).mono ?_; rintro e wE ⟨⟨s2, rfl, hs2⟩, hqE, hgE'⟩; have hgE : Gr g X0 wE := Gr.trans hgB hgE'; obtain ⟨y5, z5, a5⟩ := addB y4 s2 z4 hs2 (by have := HBB.out; omega); obtain ⟨y6, z6, a6⟩ := addB y5 ⟨#[41]⟩ (n := 1) z5 (by decide) (by have := HBB.out; omega))
          | (go_at_call 98; refine (HA.out _ (n + 2 * D + 4) HGWL.out (HQWL.out.less (by omega))).mono ?_; rintro e wC ⟨⟨s1, rfl, hs1⟩, hqC, hgCa'⟩; have hgC : Gr g X0 wC := Gr.trans HGWL.out hgCa'; obtain ⟨y1, z1, a1⟩ := addB ⟨#[40]⟩ s1 (m := 1) (by decide) hs1 (by have := HBB.out; omega); obtain ⟨y2, z2, a2⟩ := addB y1 ⟨#[41, 32]⟩ (n := 2) z1 (by decide) (by have := HBB.out; omega))
          | (go_at_call 98; refine (HA.out _ (n + 2 * D + 4) (Gr.drew HGRM.out) ((HQM.out.keep (kp_drew _)).less (by omega))).mono ?_; rintro e wC ⟨⟨s1, rfl, hs1⟩, hqC, hgCb'⟩; have hgC : Gr g X0 wC := Gr.trans (Gr.drew HGRM.out) hgCb'; obtain ⟨y1, z1, a1⟩ := addB ⟨#[40]⟩ s1 (m := 1) (by decide) hs1 (by have := HBB.out; omega); obtain ⟨y2, z2, a2⟩ := addB y1 ⟨#[41, 32]⟩ (n := 2) z1 (by decide) (by have := HBB.out; omega))
          | fail "no arm")
      all_goals
        have HZE := Lib.hid z6; have HQE := Lib.hid hqE; have HGE := Lib.hid hgE
        clear hs hs1 hs2 z1 z2 z3 z4 z5 z6 a1 a2 a3 a4 a5 a6 hqB hgB hgB' hqC hgC hqE hgE hgE'
        (first | clear hgCa' | clear hgCb')
        go_wp2_with fail
        exact FIN.out _ _ HZE.out (by omega) (HQE.out.less (by omega)) HGE.out

    · skip
      have HPS : Hid (Ps g (wm.alloc (.cells #[.string ⟨#[43]⟩, .string ⟨#[45]⟩, .string ⟨#[42]⟩, .string ⟨#[47]⟩, .string ⟨#[37]⟩, .string ⟨#[60]⟩, .string ⟨#[61, 61]⟩] 9)) (.slice (some ⟨wm.heap.size, 0, none⟩) 7 7) [⟨#[43]⟩, ⟨#[45]⟩, ⟨#[42]⟩, ⟨#[47]⟩, ⟨#[37]⟩, ⟨#[60]⟩, ⟨#[61, 61]⟩]) := Lib.hid (Ps.blk (ss := [⟨#[43]⟩, ⟨#[45]⟩, ⟨#[42]⟩, ⟨#[47]⟩, ⟨#[37]⟩, ⟨#[60]⟩, ⟨#[61, 61]⟩]) (Blk.new _ _ _) (by have := HLW.out _ HGRM.out; omega) (by decide) (by decide))
      have HGWL : Hid (Gr g X0 (wm.alloc (.cells #[.string ⟨#[43]⟩, .string ⟨#[45]⟩, .string ⟨#[42]⟩, .string ⟨#[47]⟩, .string ⟨#[37]⟩, .string ⟨#[60]⟩, .string ⟨#[61, 61]⟩] 9)).drew) := Lib.hid (Gr.drew (Gr.trans HGRM.out ((kp_alloc wm _).gr g)))
      have HQWL : Hid (Tq w0 (wm.alloc (.cells #[.string ⟨#[43]⟩, .string ⟨#[45]⟩, .string ⟨#[42]⟩, .string ⟨#[47]⟩, .string ⟨#[37]⟩, .string ⟨#[60]⟩, .string ⟨#[61, 61]⟩] 9)).drew g (n + 3 * D + 4)) := Lib.hid ((HQM.out.keep (kp_alloc wm _)).keep (kp_drew _))
      go_wp2_with fail
      go_region_held3 (fun w' => w'.cell? ⟨tb, 0, none⟩ = some (.pointer (some ⟨g, 0, none⟩)))
        (first
          | exact (FACT.out _ (by first | assumption | exact Gr.drew HGRM.out | exact HGRM.out | exact Gr.trans (Gr.drew HGRM.out) ((kp_alloc _ _).gr g) | exact Gr.trans (by assumption) ((kp_alloc _ _).gr g))).1
          | exact (FACT.out _ HGWL.out).1
          | exact (FACT.out _ (Gr.trans HGRM.out ((kp_alloc wm _).gr g))).1
          | fail "no keep")
        (first
          | (go_at_call 37; refine (One_q (n := n + 2 * D + 3) (hqC.less (by omega)) (HPS.out.gr (Gr.trans ((kp_drew _).gr g) hgCa'))).mono ?_; rintro e wB ⟨⟨s, rfl, hs, -⟩, hqB, hgB'⟩; have hgB : Gr g X0 wB := Gr.trans hgC hgB'; obtain ⟨y3, z3, a3⟩ := addB y2 s z2 hs (by have := HBB.out; omega); obtain ⟨y4, z4, a4⟩ := addB y3 ⟨#[32, 40]⟩ (n := 2) z3 (by decide) (by have := HBB.out; omega))
          | (go_at_call 37; refine (One_q (n := n + 2 * D + 3) ((hqC.less (by omega)).keep (kp_alloc _ _)) (Ps.blk (ss := [⟨#[43]⟩, ⟨#[45]⟩, ⟨#[42]⟩, ⟨#[47]⟩, ⟨#[37]⟩, ⟨#[60]⟩, ⟨#[61, 61]⟩]) (Blk.new _ _ _) (by have := HLW.out _ hgC; have := hgCb'.size; omega) (by decide) (by decide))).mono ?_; rintro e wB ⟨⟨s, rfl, hs, -⟩, hqB, hgB'⟩; have hgB : Gr g X0 wB := Gr.trans (Gr.trans hgC ((kp_alloc _ _).gr g)) hgB'; obtain ⟨y3, z3, a3⟩ := addB y2 s z2 hs (by have := HBB.out; omega); obtain ⟨y4, z4, a4⟩ := addB y3 ⟨#[32, 40]⟩ (n := 2) z3 (by decide) (by have := HBB.out; omega))
          | (go_at_call 98; refine (HA.out _ (n + D + 3) hgB (hqB.less (by omega))).mono ?_; rintro e wE ⟨⟨s2, rfl, hs2⟩, hqE, hgE'⟩; have hgE : Gr g X0 wE := Gr.trans hgB hgE'; obtain ⟨y5, z5, a5⟩ := addB y4 s2 z4 hs2 (by have := HBB.out; omega); obtain ⟨y6, z6, a6⟩ := addB y5 ⟨#[41]⟩ (n := 1) z5 (by decide) (by have := HBB.out; omega))
          | (go_at_call 98; refine (HA.out _ (n + 2 * D + 4) HGWL.out (HQWL.out.less (by omega))).mono ?_; rintro e wC ⟨⟨s1, rfl, hs1⟩, hqC, hgCa'⟩; have hgC : Gr g X0 wC := Gr.trans HGWL.out hgCa'; obtain ⟨y1, z1, a1⟩ := addB ⟨#[40]⟩ s1 (m := 1) (by decide) hs1 (by have := HBB.out; omega); obtain ⟨y2, z2, a2⟩ := addB y1 ⟨#[41, 32]⟩ (n := 2) z1 (by decide) (by have := HBB.out; omega))
          | (go_at_call 98; refine (HA.out _ (n + 2 * D + 4) (Gr.drew HGRM.out) ((HQM.out.keep (kp_drew _)).less (by omega))).mono ?_; rintro e wC ⟨⟨s1, rfl, hs1⟩, hqC, hgCb'⟩; have hgC : Gr g X0 wC := Gr.trans (Gr.drew HGRM.out) hgCb'; obtain ⟨y1, z1, a1⟩ := addB ⟨#[40]⟩ s1 (m := 1) (by decide) hs1 (by have := HBB.out; omega); obtain ⟨y2, z2, a2⟩ := addB y1 ⟨#[41, 32]⟩ (n := 2) z1 (by decide) (by have := HBB.out; omega))
          | fail "no arm")
      all_goals
        have HZE := Lib.hid z6; have HQE := Lib.hid hqE; have HGE := Lib.hid hgE
        clear hs hs1 hs2 z1 z2 z3 z4 z5 z6 a1 a2 a3 a4 a5 a6 hqB hgB hgB' hqC hgC hqE hgE hgE'
        (first | clear hgCa' | clear hgCb')
        go_wp2_with fail
        exact FIN.out _ _ HZE.out (by omega) (HQE.out.less (by omega)) HGE.out

/-- An expression of depth d. -/
theorem Expr_q : ∀ (d : Nat), d ≤ 3 → ∀ {w0 w : World} {g n : Nat} {v : Value} {ss : List ByteArray}, Tq w0 w g (n + DE d) → Ps g w v ss → Calls Tryz.prog 76 #[.pointer (some ⟨g, 0, none⟩), .int .i64 (d : Nat), v] w (StrR w0 g n (BE d) w)
  | 0, _, _, _, _, _, _, _, ht, hp => Expr_zero ht hp
  | d + 1, hd, _, _, _, _, _, _, ht, hp => Expr_succ (by omega) (Expr_q d (by omega)) ht hp
end By
end Go.Proofs.YtfobogcccbddbaaGreatDoor
