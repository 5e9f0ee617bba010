/- A program's expression, drawn from the tape: some short string. Conditions: the tape has so many draws left; the names lie apart from it. -/
import Derived.Test.YtmkijkaabcgcbaaGreatDoorMMa
import Derived.Deep.RegionHeld3
namespace Go.Proofs.YtmkijkaabcgcbaaGreatDoor
namespace By
open Go.RowKit WireN LexN
set_option linter.unusedVariables false
set_option linter.unusedSimpArgs false

/-- How many draws an expression takes at most, and how long it is. -/
def DE : Nat → Nat
  | 0 => 6
  | d + 1 => 3 * DE d + 6
def BE : Nat → Nat
  | 0 => 60
  | d + 1 => 3 * BE d + 60
/-- What is drawn: a string of at most so many bytes. -/
def StrR (w0 : World) (g n B : Nat) (w : World) (e : Ending) (w' : World) : Prop := (∃ s : ByteArray, e = .returned (.string s) ∧ s.size ≤ B) ∧ Tq w0 w' g n ∧ Gr g w w'
set_option maxRecDepth 100000 in
set_option maxHeartbeats 1000000 in
theorem Expr1_q {w : World} {g tb db pb d : Nat} {ao : Option Addr} {l c : Nat} {R : Ending → World → Prop}
    (h1 : w.cell? ⟨tb, 0, none⟩ = some (.pointer (some ⟨g, 0, none⟩))) (h2 : w.cell? ⟨db, 0, none⟩ = some (.int .i64 ((d : Int) + 1))) (h3 : w.cell? ⟨pb, 0, none⟩ = some (.slice ao l c)) (hd : d ≤ 10)
    (hE : Calls Tryz.prog 91 #[.pointer (some ⟨g, 0, none⟩), .int .i64 (d : Nat), .slice ao l c] w fun e w' => ∃ s, e = .returned (.string s) ∧ R e w') :
    Calls Tryz.prog 108 #[.pointer (some ⟨tb, 0, none⟩), .pointer (some ⟨db, 0, none⟩), .pointer (some ⟨pb, 0, none⟩)] w R := by
  have HE := Lib.hid hE
  have hdi : (d : Int) ≤ 10 := by omega
  clear hE hd
  go_enter Tryz.func108, Tryz.ntmps108
  go_wp2_with fail
  refine HE.out.mono ?_
  rintro e w1 ⟨s, rfl, hR⟩
  have HR := Lib.hid hR
  clear hR
  go_wp2_with fail
  exact HR.out
set_option maxRecDepth 100000 in
set_option maxHeartbeats 8000000 in
theorem Expr_zero {w0 w : World} {g n : Nat} {v : Value} {ss : List ByteArray} (ht : Tq w0 w g (n + DE 0)) (hp : Ps g w v ss) :
    Calls Tryz.prog 91 #[.pointer (some ⟨g, 0, none⟩), .int .i64 0, v] w (StrR w0 g n (BE 0) w) := by
  obtain ⟨ao, c, rfl, hlc, -⟩ := hp.ex
  obtain ⟨l, hl0⟩ : ∃ l, l = ss.length := ⟨_, rfl⟩
  have hl10 : l ≤ 10 := by rw [hl0]; exact hp.few
  rw [← hl0] at hp hlc ⊢
  obtain ⟨Q, hQ⟩ : ∃ Q, Q = StrR w0 g n (BE (0)) w := ⟨_, rfl⟩
  rw [← hQ]
  have hgw := ht.lt
  obtain ⟨tb, htb⟩ : ∃ tb, tb = w.heap.size := ⟨_, rfl⟩
  obtain ⟨db, hdb⟩ : ∃ db, db = w.heap.size + 1 := ⟨_, rfl⟩
  obtain ⟨pb, hpb⟩ : ∃ pb, pb = w.heap.size + 2 := ⟨_, rfl⟩
  obtain ⟨Wa, hWa⟩ : ∃ W, W = w.alloc (.cells #[.pointer (some ⟨g, 0, none⟩)] 23) := ⟨_, rfl⟩
  obtain ⟨Wb, hWb⟩ : ∃ W, W = Wa.alloc (.cells #[.int .i64 (0)] 3) := ⟨_, rfl⟩
  obtain ⟨X0, hX0⟩ : ∃ W, W = Wb.alloc (.cells #[.slice ao l c] 61) := ⟨_, rfl⟩
  have za : Wa.heap.size = w.heap.size + 1 := by rw [hWa]; simp
  have zb : Wb.heap.size = w.heap.size + 2 := by rw [hWb]; simp; omega
  have ka : Kp w Wa := by rw [hWa]; exact kp_alloc w _
  have kb : Kp Wa Wb := by rw [hWb]; exact kp_alloc Wa _
  have kc : Kp Wb X0 := by rw [hX0]; exact kp_alloc Wb _
  have HKX : Hid (Kp w X0) := Lib.hid (Kp.trans ka (Kp.trans kb kc))
  have T1 : Blk X0 tb 23 #[.pointer (some ⟨g, 0, none⟩)] := by
    have h : Blk Wa w.heap.size 23 #[.pointer (some ⟨g, 0, none⟩)] := by rw [hWa]; exact Blk.new _ _ _
    rw [htb]; exact (h.keep kb).keep kc
  have T2 : Blk X0 db 3 #[.int .i64 (0)] := by
    have h : Blk Wb Wa.heap.size 3 #[.int .i64 (0)] := by rw [hWb]; exact Blk.new _ _ _
    rw [hdb, ← za]; exact h.keep kc
  have T3 : Blk X0 pb 61 #[.slice ao l c] := by rw [hpb, ← zb, hX0]; exact Blk.new _ _ _
  have FACT : Hid (∀ W, Gr g X0 W → W.cell? ⟨tb, 0, none⟩ = some (.pointer (some ⟨g, 0, none⟩)) ∧ W.cell? ⟨db, 0, none⟩ = some (.int .i64 (0)) ∧ W.cell? ⟨pb, 0, none⟩ = some (.slice ao l c)) := Lib.hid (fun W hg =>
    ⟨cell_gr hg (T1.cell 0 rfl) (by omega), cell_gr hg (T2.cell 0 rfl) (by omega), cell_gr hg (T3.cell 0 rfl) (by omega)⟩)
  have HGW : Hid (g < X0.heap.size) := Lib.hid (by have := HKX.out.size; omega)
  have HLW : Hid (∀ W, Gr g X0 W → g < W.heap.size) := Lib.hid (fun W hg => Nat.lt_of_lt_of_le HGW.out hg.size)
  have HX0 : Hid (X0 = ((w.alloc (.cells #[.pointer (some ⟨g, 0, none⟩)] 23)).alloc (.cells #[.int .i64 (0)] 3)).alloc (.cells #[.slice ao l c] 61)) := Lib.hid (by rw [hX0, hWb, hWa])
  have HTB := Lib.hid htb; have HDB := Lib.hid hdb; have HPB := Lib.hid hpb
  have HP : Hid (Ps g X0 (.slice ao l c) ss) := Lib.hid (hp.gr (HKX.out.gr g))
  have HQ0 : Hid (Tq w0 X0 g (n + DE (0))) := Lib.hid (ht.keep HKX.out)
  have FIN : Hid (∀ (s : ByteArray) (W : World) {k : Nat}, s.size ≤ k → k ≤ BE (0) → Tq w0 W g n → Gr g X0 W → Q (.returned (.string s)) W) := Lib.hid (by
    intro s W k h1 h2 h3 h4
    rw [hQ]
    exact ⟨⟨s, rfl, Nat.le_trans h1 h2⟩, h3, Gr.trans (HKX.out.gr g) h4⟩)
  obtain ⟨x0, x1, x2⟩ := FACT.out X0 (Gr.refl _ _)
  rw [hX0, hWb, hWa] at x0 x1 x2
  have hli10 : (l : Int) ≤ 10 := by omega
  have hlci : (l : Int) ≤ (c : Int) := by omega
  clear ht hp hQ htb hdb hpb hWa hWb hX0 za zb ka kb kc T1 T2 T3 hl0 hl10 hlc hgw
  have HQX : Hid (Tq w0 X0 g (n + 6)) := HQ0
  have FIN : Hid (∀ (s : ByteArray) (W : World) {k : Nat}, s.size ≤ k → k ≤ 60 → Tq w0 W g n → Gr g X0 W → Q (.returned (.string s)) W) := Lib.hid (fun s W k h1 h2 h3 h4 => FIN.out s W h1 h2 h3 h4)
  have HGRX : Hid (Gr g X0 X0) := Lib.hid (Gr.refl _ _)
  clear HQ0
  go_enter Tryz.func91, Tryz.ntmps91
  go_wp2_with fail
  rw [← HX0.out, ← HPB.out, ← HDB.out, ← HTB.out]
  clear x0 x1 x2
  refine (Next_q (n := n + 4) (HQX.out.less (by omega)) 9 (by omega) (by omega)).mono ?_
  rintro e wl ⟨⟨r, hr, rfl⟩, hq, hg⟩
  have HQL : Hid (Tq w0 wl g (n + 4)) := Lib.hid hq
  have HGRL : Hid (Gr g X0 wl) := Lib.hid (Gr.trans HGRX.out hg)
  have HQwl := HQL; have HGRwl := HGRL
  obtain ⟨x0, x1, x2⟩ := FACT.out wl HGRL.out
  clear hq hg
  rcases (show r = 0 ∨ r = 1 ∨ r = 2 ∨ r = 3 ∨ r = 4 ∨ r = 5 ∨ r = 6 ∨ r = 7 ∨ r = 8 by omega) with rfl | rfl | rfl | rfl | rfl | rfl | rfl | rfl | rfl
  · by_cases hl : l = 0
    · subst hl
      go_wp2_with fail
      refine (Pick_q (n := n) (M := 9007199254740992) ((HQwl.out.less (by omega)).keep (kp_alloc _ _)) (by omega) (by omega) (by have := HGW.out; have := HGRwl.out.size; omega) (by
        intro i hi
        have hb := Blk.new wl 3 #[.int .i64 0, .int .i64 1, .int .i64 2, .int .i64 3, .int .i64 10, .int .i64 255, .int .i64 9007199254740992, .int .i64 1073741824]
        match i, hi with
        | 0, _ => exact ⟨0, by omega, hb.cell 0 rfl⟩
        | 1, _ => exact ⟨1, by omega, hb.cell 1 rfl⟩
        | 2, _ => exact ⟨2, by omega, hb.cell 2 rfl⟩
        | 3, _ => exact ⟨3, by omega, hb.cell 3 rfl⟩
        | 4, _ => exact ⟨10, by omega, hb.cell 4 rfl⟩
        | 5, _ => exact ⟨255, by omega, hb.cell 5 rfl⟩
        | 6, _ => exact ⟨9007199254740992, by omega, hb.cell 6 rfl⟩
        | 7, _ => exact ⟨1073741824, by omega, hb.cell 7 rfl⟩)).mono ?_
      rintro e wd ⟨⟨r9, hr9, rfl⟩, hqd, hgd⟩
      have HQD := Lib.hid hqd; have HGD := Lib.hid (Gr.trans HGRwl.out (Gr.trans ((kp_alloc wl _).gr g) hgd))
      have HDG := Lib.hid (Digits_k 15 r9 (by have : (10 : Nat) ^ (15 + 1) = 10000000000000000 := by decide
                                              omega) (by omega) wd)
      clear hr9 hqd hgd
      go_wp2_with fail
      refine HDG.out.mono ?_
      rintro e w' ⟨⟨s9, rfl, hz9⟩, rfl⟩
      have HZ9 := Lib.hid hz9
      clear hz9
      go_wp2_with fail
      exact FIN.out _ _ HZ9.out (by omega) HQD.out HGD.out
    · have hli : (0 : Int) < (l : Int) := by omega
      have HOC := Lib.hid (One_q (n := n) (HQL.out.less (by omega)) (HP.out.gr HGRL.out))
      clear hl
      go_wp2_with fail
      refine HOC.out.mono ?_
      rintro e wB ⟨⟨s, rfl, hs, -⟩, hqB, hgB⟩
      have HZ := Lib.hid hs; have HQB := Lib.hid hqB; have HGB := Lib.hid (Gr.trans HGRL.out hgB)
      clear hs hqB hgB
      go_wp2_with fail
      exact FIN.out _ _ HZ.out (by omega) HQB.out HGB.out
  · by_cases hl : l = 0
    · subst hl
      go_wp2_with fail
      refine (Pick_q (n := n) (M := 9007199254740992) ((HQwl.out.less (by omega)).keep (kp_alloc _ _)) (by omega) (by omega) (by have := HGW.out; have := HGRwl.out.size; omega) (by
        intro i hi
        have hb := Blk.new wl 3 #[.int .i64 0, .int .i64 1, .int .i64 2, .int .i64 3, .int .i64 10, .int .i64 255, .int .i64 9007199254740992, .int .i64 1073741824]
        match i, hi with
        | 0, _ => exact ⟨0, by omega, hb.cell 0 rfl⟩
        | 1, _ => exact ⟨1, by omega, hb.cell 1 rfl⟩
        | 2, _ => exact ⟨2, by omega, hb.cell 2 rfl⟩
        | 3, _ => exact ⟨3, by omega, hb.cell 3 rfl⟩
        | 4, _ => exact ⟨10, by omega, hb.cell 4 rfl⟩
        | 5, _ => exact ⟨255, by omega, hb.cell 5 rfl⟩
        | 6, _ => exact ⟨9007199254740992, by omega, hb.cell 6 rfl⟩
        | 7, _ => exact ⟨1073741824, by omega, hb.cell 7 rfl⟩)).mono ?_
      rintro e wd ⟨⟨r9, hr9, rfl⟩, hqd, hgd⟩
      have HQD := Lib.hid hqd; have HGD := Lib.hid (Gr.trans HGRwl.out (Gr.trans ((kp_alloc wl _).gr g) hgd))
      have HDG := Lib.hid (Digits_k 15 r9 (by have : (10 : Nat) ^ (15 + 1) = 10000000000000000 := by decide
                                              omega) (by omega) wd)
      clear hr9 hqd hgd
      go_wp2_with fail
      refine HDG.out.mono ?_
      rintro e w' ⟨⟨s9, rfl, hz9⟩, rfl⟩
      have HZ9 := Lib.hid hz9
      clear hz9
      go_wp2_with fail
      exact FIN.out _ _ HZ9.out (by omega) HQD.out HGD.out
    · have hli : (0 : Int) < (l : Int) := by omega
      have HOC := Lib.hid (One_q (n := n) (HQL.out.less (by omega)) (HP.out.gr HGRL.out))
      clear hl
      go_wp2_with fail
      refine HOC.out.mono ?_
      rintro e wB ⟨⟨s, rfl, hs, -⟩, hqB, hgB⟩
      have HZ := Lib.hid hs; have HQB := Lib.hid hqB; have HGB := Lib.hid (Gr.trans HGRL.out hgB)
      clear hs hqB hgB
      go_wp2_with fail
      exact FIN.out _ _ HZ.out (by omega) HQB.out HGB.out
  · go_wp2_with fail
    go_region_held3 (fun w' => w'.cell? ⟨tb, 0, none⟩ = some (.pointer (some ⟨g, 0, none⟩)))
      (first
        | exact (FACT.out _ (by first | assumption | exact Gr.drew HGRwl.out | exact HGRwl.out)).1
        | fail "no keep")
      (first
        | (go_at_call 12; refine (One_q (n := n) (hqA.less (by omega)) hpA).mono ?_; rintro e wB ⟨⟨s, rfl, hs, -⟩, hqB, hgB'⟩; have hgB : Gr g X0 wB := Gr.trans hgA hgB'; obtain ⟨x1, z1, a1⟩ := addB ⟨#[115, 105, 122, 101, 40, 34]⟩ s (m := 6) (by decide) hs (by omega); obtain ⟨x2, z2, a2⟩ := addB x1 ⟨#[34, 41]⟩ (n := 2) z1 (by decide) (by omega))
        | (go_at_call 92; refine (Paths_q g _ (HLW.out _ (Gr.drew HGRwl.out))).mono ?_; rintro e wA ⟨vA, rfl, hpA, hkA⟩; obtain ⟨aoA, capA, hvA, -, -⟩ := hpA.ex; subst hvA; have hgA : Gr g X0 wA := Gr.trans (Gr.drew HGRwl.out) (hkA.gr g); have hqA : Tq w0 wA g (n + 4) := (HQwl.out.keep (kp_drew _)).keep hkA)
        | fail "no arm")
    all_goals
      have HZ := Lib.hid z2; have HQB := Lib.hid hqB; have HGB := Lib.hid hgB
      clear hs z1 z2 a1 a2 hqB hgB hgB' hqA hpA hkA hgA
      go_wp2_with fail
      exact FIN.out _ _ HZ.out (by omega) HQB.out HGB.out
  · go_wp2_with fail
    go_region_held3 (fun w' => w'.cell? ⟨tb, 0, none⟩ = some (.pointer (some ⟨g, 0, none⟩)))
      (first
        | exact (FACT.out _ (by first | assumption | exact Gr.drew HGRwl.out | exact HGRwl.out)).1
        | fail "no keep")
      (first
        | (go_at_call 12; refine (One_q (n := n) (hqA.less (by omega)) hpA).mono ?_; rintro e wB ⟨⟨s, rfl, hs, -⟩, hqB, hgB'⟩; have hgB : Gr g X0 wB := Gr.trans hgA hgB'; obtain ⟨x1, z1, a1⟩ := addB ⟨#[104, 97, 115, 40, 34]⟩ s (m := 5) (by decide) hs (by omega); obtain ⟨x2, z2, a2⟩ := addB x1 ⟨#[34, 41]⟩ (n := 2) z1 (by decide) (by omega))
        | (go_at_call 92; refine (Paths_q g _ (HLW.out _ (Gr.drew HGRwl.out))).mono ?_; rintro e wA ⟨vA, rfl, hpA, hkA⟩; obtain ⟨aoA, capA, hvA, -, -⟩ := hpA.ex; subst hvA; have hgA : Gr g X0 wA := Gr.trans (Gr.drew HGRwl.out) (hkA.gr g); have hqA : Tq w0 wA g (n + 4) := (HQwl.out.keep (kp_drew _)).keep hkA)
        | fail "no arm")
    all_goals
      have HZ := Lib.hid z2; have HQB := Lib.hid hqB; have HGB := Lib.hid hgB
      clear hs z1 z2 a1 a2 hqB hgB hgB' hqA hpA hkA hgA
      go_wp2_with fail
      exact FIN.out _ _ HZ.out (by omega) HQB.out HGB.out
  · go_wp2_with fail
    go_region_held3 (fun w' => w'.cell? ⟨tb, 0, none⟩ = some (.pointer (some ⟨g, 0, none⟩)))
      (first
        | exact (FACT.out _ (by first | assumption | exact Gr.drew HGRwl.out | exact HGRwl.out)).1
        | fail "no keep")
      (first
        | (go_at_call 12; refine (One_q (n := n) (hqA.less (by omega)) hpA).mono ?_; rintro e wB ⟨⟨s, rfl, hs, -⟩, hqB, hgB'⟩; have hgB : Gr g X0 wB := Gr.trans hgA hgB'; obtain ⟨x1, z1, a1⟩ := addB ⟨#[101, 110, 118, 40, 34]⟩ s (m := 5) (by decide) hs (by omega); obtain ⟨x2, z2, a2⟩ := addB x1 ⟨#[34, 41]⟩ (n := 2) z1 (by decide) (by omega))
        | (go_at_call 105; refine (Variables_q g _ (HLW.out _ (Gr.drew HGRwl.out))).mono ?_; rintro e wA ⟨vA, rfl, hpA, hkA⟩; obtain ⟨aoA, capA, hvA, -, -⟩ := hpA.ex; subst hvA; have hgA : Gr g X0 wA := Gr.trans (Gr.drew HGRwl.out) (hkA.gr g); have hqA : Tq w0 wA g (n + 4) := (HQwl.out.keep (kp_drew _)).keep hkA)
        | fail "no arm")
    all_goals
      have HZ := Lib.hid z2; have HQB := Lib.hid hqB; have HGB := Lib.hid hgB
      clear hs z1 z2 a1 a2 hqB hgB hgB' hqA hpA hkA hgA
      go_wp2_with fail
      exact FIN.out _ _ HZ.out (by omega) HQB.out HGB.out
  · have HCC := Lib.hid (Chance_q (n := n + 3) HQL.out 1 5 (by omega) (by omega))
    go_wp2_with fail
    refine HCC.out.mono ?_
    rintro e wc ⟨⟨b5, rfl⟩, hq, hg⟩
    have HQwc : Hid (Tq w0 wc g (n + 3)) := Lib.hid hq
    have HGRwc : Hid (Gr g X0 wc) := Lib.hid (Gr.trans HGRL.out hg)
    obtain ⟨x0, x1, x2⟩ := FACT.out wc HGRwc.out
    clear hq hg
    cases b5 with
    | true =>
      go_wp2_with fail
      refine (Pick_q (n := n) (M := 63) ((HQwc.out.less (by omega)).keep (kp_alloc _ _)) (by omega) (by omega) (by have := HGW.out; have := HGRwc.out.size; omega) (by
        intro i hi
        have hb := Blk.new wc 3 #[.int .i64 0, .int .i64 1, .int .i64 63]
        match i, hi with
        | 0, _ => exact ⟨0, by omega, hb.cell 0 rfl⟩
        | 1, _ => exact ⟨1, by omega, hb.cell 1 rfl⟩
        | 2, _ => exact ⟨63, by omega, hb.cell 2 rfl⟩)).mono ?_
      rintro e wd ⟨⟨r9, hr9, rfl⟩, hqd, hgd⟩
      have HQD := Lib.hid hqd; have HGD := Lib.hid (Gr.trans HGRwc.out (Gr.trans ((kp_alloc wc _).gr g) hgd))
      have HDG := Lib.hid (Digits_k 1 r9 (by omega) (by omega) wd)
      clear hr9 hqd hgd
      go_wp2_with fail
      refine HDG.out.mono ?_
      rintro e w' ⟨⟨s9, rfl, hz9⟩, rfl⟩
      obtain ⟨y1, z1, a1⟩ := addB ⟨#[102, 108, 105, 112, 40]⟩ s9 (m := 5) (by decide) hz9 (by omega)
      obtain ⟨y2, z2, a2⟩ := addB y1 ⟨#[41]⟩ (n := 1) z1 (by decide) (by omega)
      have HZ := Lib.hid z2
      clear hz9 z1 z2
      go_wp2_with fail
      exact FIN.out _ _ HZ.out (by omega) HQD.out HGD.out
    | false =>
      go_wp2_with fail
      refine (Pick_q (n := n) (M := 9007199254740992) ((HQwc.out.less (by omega)).keep (kp_alloc _ _)) (by omega) (by omega) (by have := HGW.out; have := HGRwc.out.size; omega) (by
        intro i hi
        have hb := Blk.new wc 3 #[.int .i64 0, .int .i64 1, .int .i64 2, .int .i64 3, .int .i64 10, .int .i64 255, .int .i64 9007199254740992, .int .i64 1073741824]
        match i, hi with
        | 0, _ => exact ⟨0, by omega, hb.cell 0 rfl⟩
        | 1, _ => exact ⟨1, by omega, hb.cell 1 rfl⟩
        | 2, _ => exact ⟨2, by omega, hb.cell 2 rfl⟩
        | 3, _ => exact ⟨3, by omega, hb.cell 3 rfl⟩
        | 4, _ => exact ⟨10, by omega, hb.cell 4 rfl⟩
        | 5, _ => exact ⟨255, by omega, hb.cell 5 rfl⟩
        | 6, _ => exact ⟨9007199254740992, by omega, hb.cell 6 rfl⟩
        | 7, _ => exact ⟨1073741824, by omega, hb.cell 7 rfl⟩)).mono ?_
      rintro e wd ⟨⟨r9, hr9, rfl⟩, hqd, hgd⟩
      have HQD := Lib.hid hqd; have HGD := Lib.hid (Gr.trans HGRwc.out (Gr.trans ((kp_alloc wc _).gr g) hgd))
      have HDG := Lib.hid (Digits_k 15 r9 (by have : (10 : Nat) ^ (15 + 1) = 10000000000000000 := by decide
                                              omega) (by omega) wd)
      clear hr9 hqd hgd
      go_wp2_with fail
      refine HDG.out.mono ?_
      rintro e w' ⟨⟨s9, rfl, hz9⟩, rfl⟩
      have HZ9 := Lib.hid hz9
      clear hz9
      go_wp2_with fail
      exact FIN.out _ _ HZ9.out (by omega) HQD.out HGD.out
  · skip
    go_wp2_with fail
    refine (Pick_q (n := n) (M := 9007199254740992) ((HQwl.out.less (by omega)).keep (kp_alloc _ _)) (by omega) (by omega) (by have := HGW.out; have := HGRwl.out.size; omega) (by
      intro i hi
      have hb := Blk.new wl 3 #[.int .i64 0, .int .i64 1, .int .i64 2, .int .i64 3, .int .i64 10, .int .i64 255, .int .i64 9007199254740992, .int .i64 1073741824]
      match i, hi with
      | 0, _ => exact ⟨0, by omega, hb.cell 0 rfl⟩
      | 1, _ => exact ⟨1, by omega, hb.cell 1 rfl⟩
      | 2, _ => exact ⟨2, by omega, hb.cell 2 rfl⟩
      | 3, _ => exact ⟨3, by omega, hb.cell 3 rfl⟩
      | 4, _ => exact ⟨10, by omega, hb.cell 4 rfl⟩
      | 5, _ => exact ⟨255, by omega, hb.cell 5 rfl⟩
      | 6, _ => exact ⟨9007199254740992, by omega, hb.cell 6 rfl⟩
      | 7, _ => exact ⟨1073741824, by omega, hb.cell 7 rfl⟩)).mono ?_
    rintro e wd ⟨⟨r9, hr9, rfl⟩, hqd, hgd⟩
    have HQD := Lib.hid hqd; have HGD := Lib.hid (Gr.trans HGRwl.out (Gr.trans ((kp_alloc wl _).gr g) hgd))
    have HDG := Lib.hid (Digits_k 15 r9 (by have : (10 : Nat) ^ (15 + 1) = 10000000000000000 := by decide
                                            omega) (by omega) wd)
    clear hr9 hqd hgd
    go_wp2_with fail
    refine HDG.out.mono ?_
    rintro e w' ⟨⟨s9, rfl, hz9⟩, rfl⟩
    have HZ9 := Lib.hid hz9
    clear hz9
    go_wp2_with fail
    exact FIN.out _ _ HZ9.out (by omega) HQD.out HGD.out
  · skip
    go_wp2_with fail
    refine (Pick_q (n := n) (M := 9007199254740992) ((HQwl.out.less (by omega)).keep (kp_alloc _ _)) (by omega) (by omega) (by have := HGW.out; have := HGRwl.out.size; omega) (by
      intro i hi
      have hb := Blk.new wl 3 #[.int .i64 0, .int .i64 1, .int .i64 2, .int .i64 3, .int .i64 10, .int .i64 255, .int .i64 9007199254740992, .int .i64 1073741824]
      match i, hi with
      | 0, _ => exact ⟨0, by omega, hb.cell 0 rfl⟩
      | 1, _ => exact ⟨1, by omega, hb.cell 1 rfl⟩
      | 2, _ => exact ⟨2, by omega, hb.cell 2 rfl⟩
      | 3, _ => exact ⟨3, by omega, hb.cell 3 rfl⟩
      | 4, _ => exact ⟨10, by omega, hb.cell 4 rfl⟩
      | 5, _ => exact ⟨255, by omega, hb.cell 5 rfl⟩
      | 6, _ => exact ⟨9007199254740992, by omega, hb.cell 6 rfl⟩
      | 7, _ => exact ⟨1073741824, by omega, hb.cell 7 rfl⟩)).mono ?_
    rintro e wd ⟨⟨r9, hr9, rfl⟩, hqd, hgd⟩
    have HQD := Lib.hid hqd; have HGD := Lib.hid (Gr.trans HGRwl.out (Gr.trans ((kp_alloc wl _).gr g) hgd))
    have HDG := Lib.hid (Digits_k 15 r9 (by have : (10 : Nat) ^ (15 + 1) = 10000000000000000 := by decide
                                            omega) (by omega) wd)
    clear hr9 hqd hgd
    go_wp2_with fail
    refine HDG.out.mono ?_
    rintro e w' ⟨⟨s9, rfl, hz9⟩, rfl⟩
    have HZ9 := Lib.hid hz9
    clear hz9
    go_wp2_with fail
    exact FIN.out _ _ HZ9.out (by omega) HQD.out HGD.out
  · skip
    go_wp2_with fail
    refine (Pick_q (n := n) (M := 9007199254740992) ((HQwl.out.less (by omega)).keep (kp_alloc _ _)) (by omega) (by omega) (by have := HGW.out; have := HGRwl.out.size; omega) (by
      intro i hi
      have hb := Blk.new wl 3 #[.int .i64 0, .int .i64 1, .int .i64 2, .int .i64 3, .int .i64 10, .int .i64 255, .int .i64 9007199254740992, .int .i64 1073741824]
      match i, hi with
      | 0, _ => exact ⟨0, by omega, hb.cell 0 rfl⟩
      | 1, _ => exact ⟨1, by omega, hb.cell 1 rfl⟩
      | 2, _ => exact ⟨2, by omega, hb.cell 2 rfl⟩
      | 3, _ => exact ⟨3, by omega, hb.cell 3 rfl⟩
      | 4, _ => exact ⟨10, by omega, hb.cell 4 rfl⟩
      | 5, _ => exact ⟨255, by omega, hb.cell 5 rfl⟩
      | 6, _ => exact ⟨9007199254740992, by omega, hb.cell 6 rfl⟩
      | 7, _ => exact ⟨1073741824, by omega, hb.cell 7 rfl⟩)).mono ?_
    rintro e wd ⟨⟨r9, hr9, rfl⟩, hqd, hgd⟩
    have HQD := Lib.hid hqd; have HGD := Lib.hid (Gr.trans HGRwl.out (Gr.trans ((kp_alloc wl _).gr g) hgd))
    have HDG := Lib.hid (Digits_k 15 r9 (by have : (10 : Nat) ^ (15 + 1) = 10000000000000000 := by decide
                                            omega) (by omega) wd)
    clear hr9 hqd hgd
    go_wp2_with fail
    refine HDG.out.mono ?_
    rintro e w' ⟨⟨s9, rfl, hz9⟩, rfl⟩
    have HZ9 := Lib.hid hz9
    clear hz9
    go_wp2_with fail
    exact FIN.out _ _ HZ9.out (by omega) HQD.out HGD.out
end By
end Go.Proofs.YtmkijkaabcgcbaaGreatDoor
