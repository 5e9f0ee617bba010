/- A source file, drawn from the tape. Conditions: the tape has so many draws left; the package's name is short. -/
import Derived.Test.YtfobogcccbddbaaGreatDoorMkD
namespace Go.Proofs.YtfobogcccbddbaaGreatDoor
namespace By
open Go.RowKit WireN LexN
set_option linter.unusedVariables false
set_option linter.unusedSimpArgs false

/-- A slice of a few strings, apart from block g. -/
structure Pt (g : Nat) (w : World) (v : Value) (ss : List ByteArray) : Prop where
  ex : ∃ ao cap, v = .slice ao ss.length cap ∧ ss.length ≤ cap ∧ (ss ≠ [] → ∃ b, ao = some ⟨b, 0, none⟩ ∧ b ≠ g ∧ ∀ i s, ss[i]? = some s → w.cell? ⟨b, i, none⟩ = some (.string s))
  sm : ∀ s ∈ ss, s.size ≤ 11
  few : ss.length ≤ 10
theorem Pt.gr {g : Nat} {w w' : World} {v : Value} {ss : List ByteArray} (h : Pt g w v ss) (hg : Gr g w w') : Pt g w' v ss := by
  obtain ⟨⟨ao, cap, h1, h2, h3⟩, h4, h5⟩ := h
  refine ⟨⟨ao, cap, h1, h2, fun hne => ?_⟩, h4, h5⟩
  obtain ⟨b, e, hb, hc⟩ := h3 hne
  exact ⟨b, e, hb, fun i s hs => cell_gr hg (hc i s hs) hb⟩
theorem Pt.nil (g : Nat) (w : World) : Pt g w (.slice none 0 0) [] := ⟨⟨none, 0, rfl, Nat.le_refl _, fun h => absurd rfl h⟩, fun s h => by simp at h, by simp⟩
theorem Pt.blk {g : Nat} {w : World} {b : Nat} {t : TypeId} {ss : List ByteArray} (h : Blk w b t (ss.map Value.string).toArray) (hb : b ≠ g) (hs : ∀ s ∈ ss, s.size ≤ 11) (hf : ss.length ≤ 10) : Pt g w (.slice (some ⟨b, 0, none⟩) ss.length ss.length) ss := by
  refine ⟨⟨_, _, rfl, Nat.le_refl _, fun _ => ⟨b, rfl, hb, fun i s hi => ?_⟩⟩, hs, hf⟩
  refine h.cell i ?_
  simp [hi]
set_option maxRecDepth 100000 in
set_option maxHeartbeats 400000 in
theorem One_t {w0 w : World} {g n : Nat} {v : Value} {ss : List ByteArray} (ht : Tq w0 w g (n + 1)) (hp : Pt g w v ss) :
    Calls Tryz.prog 37 #[.pointer (some ⟨g, 0, none⟩), v] w fun e w' => (∃ s : ByteArray, e = .returned (.string s) ∧ s.size ≤ 11 ∧ (ss ≠ [] → s ∈ ss)) ∧ Tq w0 w' g n ∧ Gr g w w' := by
  obtain ⟨ao, cap, rfl, hc, hx⟩ := hp.ex
  have HT := Lib.hid ht; have HP := Lib.hid hp
  obtain ⟨m, hm⟩ : ∃ m, m = ss.length := ⟨_, rfl⟩
  rw [← hm] at hc ⊢
  have hm10 : m ≤ 10 := by rw [hm]; exact hp.few
  have HM := Lib.hid hm
  by_cases h0 : m = 0
  · subst h0
    have HE : Hid (ss = []) := Lib.hid (List.length_eq_zero_iff.1 hm.symm)
    clear ht hp hc hx hm
    go_enter Tryz.func37, Tryz.ntmps37
    go_wp2_with fail
    go_ret
    exact ⟨⟨_, rfl, by decide, fun h => absurd HE.out h⟩, HT.out.less (by omega), Gr.refl _ _⟩
  · have hne : ss ≠ [] := fun e => h0 (by rw [hm, e]; rfl)
    obtain ⟨b, rfl, hb, hcell⟩ := hx hne
    have HC := Lib.hid (Next_q ht m (by omega) (by omega))
    have HX := Lib.hid hcell; have HB := Lib.hid hb
    have q0 : ((m : Int) == 0) = false := beq_eq_false_iff_ne.2 (by omega)
    have hmc : (m : Int) ≤ (cap : Int) := by omega
    clear ht hp hc hx hm h0 hcell hb
    go_enter Tryz.func37, Tryz.ntmps37
    go_wp2_with fail
    refine HC.out.mono ?_
    rintro e w1 ⟨⟨r, hr, rfl⟩, hq, hg⟩
    obtain ⟨s, hs⟩ : ∃ s, ss[r]? = some s := ⟨_, List.getElem?_eq_getElem (by have := HM.out; omega)⟩
    have c0 := cell_gr hg (HX.out r s hs) HB.out
    have hri : (r : Int) < (m : Int) := by omega
    have HQ := Lib.hid hq; have HG := Lib.hid hg; have HSS := Lib.hid hs
    clear hq hg hs
    go_wp2_with fail
    go_ret
    exact ⟨⟨s, rfl, HP.out.sm s (List.mem_of_getElem? HSS.out), fun _ => List.mem_of_getElem? HSS.out⟩, HQ.out, HG.out⟩
set_option maxRecDepth 100000 in
set_option maxHeartbeats 16000000 in
theorem Source_s {w0 w : World} {g n : Nat} {PK : ByteArray} (ht : Tq w0 w g (n + 1300)) (hpk : PK.size ≤ 30) : Calls Tryz.prog 49 #[.pointer (some ⟨g, 0, none⟩), .string PK] w (StrR w0 g n 5200 w) := by
  obtain ⟨Q, hQ⟩ : ∃ Q, Q = StrR w0 g n 5200 w := ⟨_, rfl⟩
  rw [← hQ]
  have HGW := Lib.hid ht.lt
  have HGE := Lib.hid ht.ge
  have HBS := Lib.hid ht.base.size
  have HC := Lib.hid (Chance_q (n := n + 1299) ht 1 8 (by omega) (by omega))
  have FIN : Hid (∀ (s : ByteArray) (W : World) {k : Nat}, s.size ≤ k → k ≤ 5200 → Tq w0 W g n → Gr g w W → Q (.returned (.string s)) W) := Lib.hid (by
    intro s W k h1 h2 h3 h4
    rw [hQ]
    exact ⟨⟨s, rfl, Nat.le_trans h1 h2⟩, h3, h4⟩)
  have HLW : Hid (∀ W, Gr g w W → g < W.heap.size) := Lib.hid (fun W hg => Nat.lt_of_lt_of_le HGW.out hg.size)
  have APP : Hid (∀ (W W' : World) (v : Value) (ss : List ByteArray) (m : Nat), Os w.heap.size W v ss → Tq w0 W g m → Gr g w W → W.grownBy W' v.ownBlock → Tq w0 W' g m ∧ Gr g w W') := Lib.hid (fun W W' v ss m ho hq hg hgr =>
    ⟨hq.by hgr (fun r hr => by have h1 := ho.lt r hr; have h2 := HGW.out; have h3 := HBS.out; exact ⟨by omega, by omega⟩), Gr.by hg hgr (fun r hr => ho.lt r hr)⟩)
  obtain ⟨p1, z1, a1⟩ := addB ⟨#[112, 97, 99, 107, 97, 103, 101, 32]⟩ PK (m := 8) (by decide) hpk (by omega)
  obtain ⟨p2, z2, a2⟩ := addB p1 ⟨#[59, 10]⟩ (n := 2) z1 (by decide) (by omega)
  have HZ2 := Lib.hid z2
  clear ht hQ hpk z1 z2
  go_enter Tryz.func49, Tryz.ntmps49
  go_wp2_with fail
  clear a1 a2
  refine HC.out.mono ?_
  rintro e wm ⟨⟨b, rfl⟩, hq, hg⟩
  have HQM : Hid (Tq w0 wm g (n + 1299)) := Lib.hid hq
  have HGM : Hid (Gr g w wm) := Lib.hid hg
  clear hq hg
  cases b with
  | true =>
    obtain ⟨S0, z0, a0⟩ := addB ⟨#[35, 32, 97, 32, 99, 111, 109, 109, 101, 110, 116, 10]⟩ p2 (m := 12) (by decide) HZ2.out (by omega)
    have HZ0 : Hid (S0.size ≤ 52) := Lib.hid (by omega)
    clear z0
    go_wp2_with fail
    clear a0
    have HC3 := Lib.hid (Next_q (n := n + 1298) HQM.out 3 (by omega) (by omega))
    refine HC3.out.mono ?_
    rintro e w1 ⟨⟨k1, hk1, rfl⟩, hq, hg⟩
    have HQ1 : Hid (Tq w0 w1 g (n + 1298)) := Lib.hid hq
    have HG1 : Hid (Gr g w w1) := Lib.hid (Gr.trans HGM.out hg)
    clear hq hg
    go_wp2_with fail
    go_loopw [5, 6, 7] (fun s v i wr => ∃ (S : ByteArray) (ss : List ByteArray) (k : Nat), s = .string S ∧ i = .int .i64 k ∧ k ≤ 2 ∧ S.size ≤ 52 + (2 - k) * 40 ∧ Os w.heap.size wr v ss ∧ ss.length + k ≤ 2 ∧ Tq w0 wr g (n + 1290 + k) ∧ Gr g w wr) (fun _ _ i _ => (intOf i).toNat)
    case atStart => exact ⟨S0, [], k1, rfl, rfl, by omega, by have := HZ0.out; omega, Os.nil _ _, by simp; omega, HQ1.out.less (by omega), HG1.out⟩
    case round =>
      obtain ⟨S, ss, k, rfl, rfl, hk, hsz, hos, hks, hqr, hgr⟩ := hrel
      rename World => wr
      have HSZ := Lib.hid hsz; have HOS := Lib.hid hos; have HKS := Lib.hid hks; have HQR := Lib.hid hqr; have HGR := Lib.hid hgr
      obtain ⟨oa, oc, hv, -, -⟩ := hos.form
      obtain ⟨ol, hol⟩ : ∃ l, l = ss.length := ⟨_, rfl⟩
      rw [← hol] at hv
      subst hv
      clear hsz hos hks hqr hgr hol
      rcases (show k = 0 ∨ ∃ k', k = k' + 1 by cases k with | zero => exact .inl rfl | succ k' => exact .inr ⟨k', rfl⟩) with rfl | ⟨k', rfl⟩
      · have HC5 := Lib.hid (Next_q (n := n + 1289) HQR.out 5 (by omega) (by omega))
        go_wp2_with fail
        refine HC5.out.mono ?_
        rintro e w5 ⟨⟨k5, hk5, rfl⟩, hq, hg⟩
        have HQ5 : Hid (Tq w0 w5 g (n + 1289)) := Lib.hid hq
        have HG5 : Hid (Gr g w w5) := Lib.hid (Gr.trans HGR.out hg)
        have HS5 : Hid (S.size ≤ 132) := Lib.hid (by have := HSZ.out; omega)
        clear hq hg HSZ HOS HKS HQR HGR HQ1 HG1 HZ0
        go_wp2_with fail
        go_loopw [5, 9, 10] (fun s v i wr => ∃ (S : ByteArray) (ss : List ByteArray) (k : Nat), s = .string S ∧ i = .int .i64 k ∧ k ≤ 5 ∧ S.size ≤ 132 + (5 - k) * 1000 ∧ Os w.heap.size wr v ss ∧ ss.length + k ≤ 5 ∧ Tq w0 wr g (n + 4 + 251 * k) ∧ Gr g w wr) (fun _ _ i _ => (intOf i).toNat)
        case atStart => exact ⟨S, [], k5 + 1, rfl, by go_num, by omega, by have := HS5.out; omega, Os.nil _ _, by simp; omega, HQ5.out.less (by omega), HG5.out⟩
        case round =>
          clear HS5
          obtain ⟨S, ss, k, rfl, rfl, hk, hsz, hos, hks, hqr, hgr⟩ := hrel
          rename World => wr2
          have HSZ := Lib.hid hsz; have HOS := Lib.hid hos; have HKS := Lib.hid hks; have HQR := Lib.hid hqr; have HGR := Lib.hid hgr
          obtain ⟨oa2, oc2, hv, -, -⟩ := hos.form
          obtain ⟨ol2, hol⟩ : ∃ l, l = ss.length := ⟨_, rfl⟩
          rw [← hol] at hv
          subst hv
          clear hsz hos hks hqr hgr hol
          rcases (show k = 0 ∨ ∃ k', k = k' + 1 by cases k with | zero => exact .inl rfl | succ k' => exact .inr ⟨k', rfl⟩) with rfl | ⟨k, rfl⟩
          · have HC30 := Lib.hid (Chance_q (n := n + 3) HQR.out 1 30 (by omega) (by omega))
            go_wp2_with fail
            refine HC30.out.mono ?_
            rintro e w6 ⟨⟨b6, rfl⟩, hq, hg⟩
            have HQ6 : Hid (Tq w0 w6 g (n + 3)) := Lib.hid hq
            have HG6 : Hid (Gr g w w6) := Lib.hid (Gr.trans HGR.out hg)
            clear hq hg
            cases b6 with
            | true =>
              have HOC := Lib.hid (One_t (n := n) ((HQ6.out.less (by omega)).keep (kp_alloc w6 (.cells #[.string ⟨#[102, 117, 110, 99]⟩, .string ⟨#[125]⟩, .string ⟨#[34]⟩, .string ⟨#[116, 101, 115, 116, 32, 116, 32, 61, 32, 49, 59]⟩, .string ⟨#[120]⟩] 9))) (Pt.blk (ss := [⟨#[102, 117, 110, 99]⟩, ⟨#[125]⟩, ⟨#[34]⟩, ⟨#[116, 101, 115, 116, 32, 116, 32, 61, 32, 49, 59]⟩, ⟨#[120]⟩]) (Blk.new w6 _ _) (by have := HLW.out _ HG6.out; omega) (by decide) (by decide)))
              go_wp2_with fail
              refine HOC.out.mono ?_
              rintro e w7 ⟨⟨s, rfl, hs, -⟩, hq, hg⟩
              obtain ⟨y1, z1, a1⟩ := addB S s (m := 5132) (by have := HSZ.out; omega) hs (by omega)
              have HZ1 := Lib.hid z1; have HQ7 := Lib.hid hq; have HG7 := Lib.hid (Gr.trans (Gr.trans HG6.out ((kp_alloc w6 _).gr g)) hg)
              clear hs hq hg z1
              go_wp2_with fail
              exact FIN.out _ _ HZ1.out (by omega) HQ7.out HG7.out
            | false =>
              go_wp2_with fail
              exact FIN.out S _ (k := 5132) (by have := HSZ.out; omega) (by omega) (HQ6.out.less (by omega)) HG6.out
          · have HDC := Lib.hid (Decl_q (n := n + 4 + 251 * k + 1) (HQR.out.less (by omega)))
            go_wp2_with fail
            refine HDC.out.mono ?_
            rintro e wd ⟨⟨D, rfl, hdz⟩, hq, hg⟩
            have HQD : Hid (Tq w0 wd g (n + 4 + 251 * k + 1)) := Lib.hid hq
            have HGD : Hid (Gr g w wd) := Lib.hid (Gr.trans HGR.out hg)
            have HOD := Lib.hid (HOS.out.gr hg HGW.out)
            have HDZ := Lib.hid hdz
            obtain ⟨dl, hdl⟩ : ∃ l, l = bs D := ⟨_, rfl⟩
            have hDl : D = st dl := by rw [hdl, st_bs]
            have hdlt : Lt dl := hdl ▸ bs_lt D
            obtain ⟨L, hL⟩ : ∃ L, L = dl.length := ⟨_, rfl⟩
            have qs : ∀ w, (Builtin.len_ #[9] 3 #[.string D]).run Tryz.prog w = .ok (goInt L) w := fun w => by rw [hL, hDl]; exact len w
            have hL2 : (L : Int) ≤ 1000 := by
              have : L = D.size := by rw [hL, hdl, bs_len]
              omega
            have HDL := Lib.hid hDl; have HLT := Lib.hid hdlt; have HL := Lib.hid hL
            clear hq hg hdz hdl hDl hdlt hL
            go_wp2_with fail
            go_loop [12, 13] (fun h i => ∃ j : Nat, h = .string D ∧ i = .int .i64 j ∧ j ≤ L) (fun _ i => L - (intOf i).toNat)
            case atStart => exact ⟨0, rfl, rfl, Nat.zero_le _⟩
            case round =>
              obtain ⟨j, rfl, rfl, hj⟩ := hrel
              by_cases hjl : j < L
              · have hx : ∀ w, (Instr.index 9 (.string D) (.int .i64 (j : Int))).run Tryz.prog w = .ok (.int .u8 (at' dl j : Nat)) w := fun w => by rw [HDL.out]; exact idx HLT.out (by have := HL.out; omega) w
                obtain ⟨H, hH⟩ : ∃ H, H = st (dl.take j) := ⟨_, rfl⟩
                have hcut : ∀ w, (Instr.slice 9 (.string D) none (some (.int .i64 (j : Int))) none).run Tryz.prog w = .ok (.string H) w := fun w => by rw [HDL.out, hH]; exact cut_to (by have := HL.out; omega) w
                obtain ⟨c, hc⟩ : ∃ c, c = at' dl j := ⟨_, rfl⟩
                rw [← hc] at hx
                clear hc hH
                by_cases h40 : c = 40
                · have b1 : ((c : Int) == 40) = true := by rw [h40]; rfl
                  clear h40
                  go_wp2_with fail
                  refine (Has_q HOD.out (by have := HKS.out; omega) H).mono ?_
                  rintro e wh ⟨⟨bh, rfl⟩, hkh⟩
                  have HQH := Lib.hid (HQD.out.keep hkh); have HGH := Lib.hid (Gr.trans HGD.out (hkh.gr g)); have HOH := Lib.hid (HOD.out.keep hkh)
                  clear hkh
                  cases bh with
                  | true =>
                    have HCH := Lib.hid (Chance_q (n := n + 4 + 251 * k) HQH.out 1 40 (by omega) (by omega))
                    go_wp2_with fail
                    refine HCH.out.mono ?_
                    rintro e wj ⟨⟨bj, rfl⟩, hq, hg⟩
                    have HQJ : Hid (Tq w0 wj g (n + 4 + 251 * k)) := Lib.hid hq
                    have HGJ : Hid (Gr g w wj) := Lib.hid (Gr.trans HGH.out hg)
                    have HOJ := Lib.hid (HOH.out.gr hg HGW.out)
                    clear hq hg
                    cases bj with
                    | true =>
                      have HOA := Lib.hid (HOJ.out.keep (kp_alloc wj (.cells #[.string H] 9)))
                      have HBA : Hid (Blk (wj.alloc (.cells #[.string H] 9)) wj.heap.size 9 #[.string H]) := Lib.hid (Blk.new _ _ _)
                      have HSA : Hid (w.heap.size ≤ (wj.alloc (.cells #[.string H] 9)).heap.size) := Lib.hid (Nat.le_trans HGJ.out.size (kp_alloc wj _).size)
                      go_wp2_with (at_builtin; refine wpList_os rfl (.tmp 85) (.tmp 87) rfl _ rfl HOA.out HSA.out (by have := HKS.out; omega) H wj.heap.size rfl HBA.out ?_)
                      intro v5 wk hos hgr
                      obtain ⟨hqk, hgk⟩ := APP.out _ _ _ _ _ HOA.out (HQJ.out.keep (kp_alloc wj _)) (Gr.trans HGJ.out ((kp_alloc wj _).gr g)) hgr
                      obtain ⟨y5, z5, a5⟩ := addB S D (m := 132 + (4 - k) * 1000) (n := 1000) (by have := HSZ.out; omega) HDZ.out (by omega)
                      have HZ5 := Lib.hid z5; have HOK := Lib.hid hos; have HQK := Lib.hid hqk; have HGK := Lib.hid hgk
                      obtain ⟨oa5, oc5, hv5, -, -⟩ := hos.form
                      obtain ⟨ol5, hol5⟩ : ∃ l, l = (ss ++ [H]).length := ⟨_, rfl⟩
                      rw [← hol5] at hv5
                      subst hv5
                      clear hos hgr hqk hgk z5 hol5
                      go_wp2_with fail
                      go_roundw
                      case rel => exact ⟨y5, ss ++ [H], k, rfl, by go_num, by omega, by have := HZ5.out; omega, HOK.out, by have := HKS.out; rw [List.length_append]; simp only [List.length_cons, List.length_nil]; omega, HQK.out, HGK.out⟩
                      case measure => (first | (simp [intOf]; omega) | simp [intOf])

                    | false =>
                      go_wp2_with fail
                      go_roundw
                      case rel => exact ⟨S, ss, k, rfl, by go_num, by omega, by have := HSZ.out; omega, HOJ.out, by have := HKS.out; omega, HQJ.out, HGJ.out⟩
                      case measure => (first | (simp [intOf]; omega) | simp [intOf])
                  | false =>
                    have HQJ := Lib.hid (HQH.out.less (m := n + 4 + 251 * k) (by omega)); have HGJ := HGH; have HOJ := HOH
                    have HOA := Lib.hid (HOJ.out.keep (kp_alloc wh (.cells #[.string H] 9)))
                    have HBA : Hid (Blk (wh.alloc (.cells #[.string H] 9)) wh.heap.size 9 #[.string H]) := Lib.hid (Blk.new _ _ _)
                    have HSA : Hid (w.heap.size ≤ (wh.alloc (.cells #[.string H] 9)).heap.size) := Lib.hid (Nat.le_trans HGJ.out.size (kp_alloc wh _).size)
                    go_wp2_with (at_builtin; refine wpList_os rfl (.tmp 85) (.tmp 87) rfl _ rfl HOA.out HSA.out (by have := HKS.out; omega) H wh.heap.size rfl HBA.out ?_)
                    intro v5 wk hos hgr
                    obtain ⟨hqk, hgk⟩ := APP.out _ _ _ _ _ HOA.out (HQJ.out.keep (kp_alloc wh _)) (Gr.trans HGJ.out ((kp_alloc wh _).gr g)) hgr
                    obtain ⟨y5, z5, a5⟩ := addB S D (m := 132 + (4 - k) * 1000) (n := 1000) (by have := HSZ.out; omega) HDZ.out (by omega)
                    have HZ5 := Lib.hid z5; have HOK := Lib.hid hos; have HQK := Lib.hid hqk; have HGK := Lib.hid hgk
                    obtain ⟨oa5, oc5, hv5, -, -⟩ := hos.form
                    obtain ⟨ol5, hol5⟩ : ∃ l, l = (ss ++ [H]).length := ⟨_, rfl⟩
                    rw [← hol5] at hv5
                    subst hv5
                    clear hos hgr hqk hgk z5 hol5
                    go_wp2_with fail
                    go_roundw
                    case rel => exact ⟨y5, ss ++ [H], k, rfl, by go_num, by omega, by have := HZ5.out; omega, HOK.out, by have := HKS.out; rw [List.length_append]; simp only [List.length_cons, List.length_nil]; omega, HQK.out, HGK.out⟩
                    case measure => (first | (simp [intOf]; omega) | simp [intOf])

                · have b1 : ((c : Int) == 40) = false := beq_eq_false_iff_ne.2 (by omega)
                  by_cases h61 : c = 61
                  · have b2 : ((c : Int) == 61) = true := by rw [h61]; rfl
                    clear h40 h61
                    go_wp2_with fail
                    refine (Has_q HOD.out (by have := HKS.out; omega) H).mono ?_
                    rintro e wh ⟨⟨bh, rfl⟩, hkh⟩
                    have HQH := Lib.hid (HQD.out.keep hkh); have HGH := Lib.hid (Gr.trans HGD.out (hkh.gr g)); have HOH := Lib.hid (HOD.out.keep hkh)
                    clear hkh
                    cases bh with
                    | true =>
                      have HCH := Lib.hid (Chance_q (n := n + 4 + 251 * k) HQH.out 1 40 (by omega) (by omega))
                      go_wp2_with fail
                      refine HCH.out.mono ?_
                      rintro e wj ⟨⟨bj, rfl⟩, hq, hg⟩
                      have HQJ : Hid (Tq w0 wj g (n + 4 + 251 * k)) := Lib.hid hq
                      have HGJ : Hid (Gr g w wj) := Lib.hid (Gr.trans HGH.out hg)
                      have HOJ := Lib.hid (HOH.out.gr hg HGW.out)
                      clear hq hg
                      cases bj with
                      | true =>
                        have HOA := Lib.hid (HOJ.out.keep (kp_alloc wj (.cells #[.string H] 9)))
                        have HBA : Hid (Blk (wj.alloc (.cells #[.string H] 9)) wj.heap.size 9 #[.string H]) := Lib.hid (Blk.new _ _ _)
                        have HSA : Hid (w.heap.size ≤ (wj.alloc (.cells #[.string H] 9)).heap.size) := Lib.hid (Nat.le_trans HGJ.out.size (kp_alloc wj _).size)
                        go_wp2_with (at_builtin; refine wpList_os rfl (.tmp 85) (.tmp 87) rfl _ rfl HOA.out HSA.out (by have := HKS.out; omega) H wj.heap.size rfl HBA.out ?_)
                        intro v5 wk hos hgr
                        obtain ⟨hqk, hgk⟩ := APP.out _ _ _ _ _ HOA.out (HQJ.out.keep (kp_alloc wj _)) (Gr.trans HGJ.out ((kp_alloc wj _).gr g)) hgr
                        obtain ⟨y5, z5, a5⟩ := addB S D (m := 132 + (4 - k) * 1000) (n := 1000) (by have := HSZ.out; omega) HDZ.out (by omega)
                        have HZ5 := Lib.hid z5; have HOK := Lib.hid hos; have HQK := Lib.hid hqk; have HGK := Lib.hid hgk
                        obtain ⟨oa5, oc5, hv5, -, -⟩ := hos.form
                        obtain ⟨ol5, hol5⟩ : ∃ l, l = (ss ++ [H]).length := ⟨_, rfl⟩
                        rw [← hol5] at hv5
                        subst hv5
                        clear hos hgr hqk hgk z5 hol5
                        go_wp2_with fail
                        go_roundw
                        case rel => exact ⟨y5, ss ++ [H], k, rfl, by go_num, by omega, by have := HZ5.out; omega, HOK.out, by have := HKS.out; rw [List.length_append]; simp only [List.length_cons, List.length_nil]; omega, HQK.out, HGK.out⟩
                        case measure => (first | (simp [intOf]; omega) | simp [intOf])

                      | false =>
                        go_wp2_with fail
                        go_roundw
                        case rel => exact ⟨S, ss, k, rfl, by go_num, by omega, by have := HSZ.out; omega, HOJ.out, by have := HKS.out; omega, HQJ.out, HGJ.out⟩
                        case measure => (first | (simp [intOf]; omega) | simp [intOf])
                    | false =>
                      have HQJ := Lib.hid (HQH.out.less (m := n + 4 + 251 * k) (by omega)); have HGJ := HGH; have HOJ := HOH
                      have HOA := Lib.hid (HOJ.out.keep (kp_alloc wh (.cells #[.string H] 9)))
                      have HBA : Hid (Blk (wh.alloc (.cells #[.string H] 9)) wh.heap.size 9 #[.string H]) := Lib.hid (Blk.new _ _ _)
                      have HSA : Hid (w.heap.size ≤ (wh.alloc (.cells #[.string H] 9)).heap.size) := Lib.hid (Nat.le_trans HGJ.out.size (kp_alloc wh _).size)
                      go_wp2_with (at_builtin; refine wpList_os rfl (.tmp 85) (.tmp 87) rfl _ rfl HOA.out HSA.out (by have := HKS.out; omega) H wh.heap.size rfl HBA.out ?_)
                      intro v5 wk hos hgr
                      obtain ⟨hqk, hgk⟩ := APP.out _ _ _ _ _ HOA.out (HQJ.out.keep (kp_alloc wh _)) (Gr.trans HGJ.out ((kp_alloc wh _).gr g)) hgr
                      obtain ⟨y5, z5, a5⟩ := addB S D (m := 132 + (4 - k) * 1000) (n := 1000) (by have := HSZ.out; omega) HDZ.out (by omega)
                      have HZ5 := Lib.hid z5; have HOK := Lib.hid hos; have HQK := Lib.hid hqk; have HGK := Lib.hid hgk
                      obtain ⟨oa5, oc5, hv5, -, -⟩ := hos.form
                      obtain ⟨ol5, hol5⟩ : ∃ l, l = (ss ++ [H]).length := ⟨_, rfl⟩
                      rw [← hol5] at hv5
                      subst hv5
                      clear hos hgr hqk hgk z5 hol5
                      go_wp2_with fail
                      go_roundw
                      case rel => exact ⟨y5, ss ++ [H], k, rfl, by go_num, by omega, by have := HZ5.out; omega, HOK.out, by have := HKS.out; rw [List.length_append]; simp only [List.length_cons, List.length_nil]; omega, HQK.out, HGK.out⟩
                      case measure => (first | (simp [intOf]; omega) | simp [intOf])

                  · have b2 : ((c : Int) == 61) = false := beq_eq_false_iff_ne.2 (by omega)
                    clear h40 h61
                    go_wp2_with fail
                    go_round
                    case rel => exact ⟨j + 1, rfl, by go_num, by omega⟩
                    case measure => (first | (simp [intOf]; omega) | simp [intOf])
              · obtain rfl : j = L := by omega
                clear hjl
                go_wp2_with fail
                refine (Has_q HOD.out (by have := HKS.out; omega) D).mono ?_
                rintro e wh ⟨⟨bh, rfl⟩, hkh⟩
                have HQH := Lib.hid (HQD.out.keep hkh); have HGH := Lib.hid (Gr.trans HGD.out (hkh.gr g)); have HOH := Lib.hid (HOD.out.keep hkh)
                clear hkh
                cases bh with
                | true =>
                  have HCH := Lib.hid (Chance_q (n := n + 4 + 251 * k) HQH.out 1 40 (by omega) (by omega))
                  go_wp2_with fail
                  refine HCH.out.mono ?_
                  rintro e wj ⟨⟨bj, rfl⟩, hq, hg⟩
                  have HQJ : Hid (Tq w0 wj g (n + 4 + 251 * k)) := Lib.hid hq
                  have HGJ : Hid (Gr g w wj) := Lib.hid (Gr.trans HGH.out hg)
                  have HOJ := Lib.hid (HOH.out.gr hg HGW.out)
                  clear hq hg
                  cases bj with
                  | true =>
                    have HOA := Lib.hid (HOJ.out.keep (kp_alloc wj (.cells #[.string D] 9)))
                    have HBA : Hid (Blk (wj.alloc (.cells #[.string D] 9)) wj.heap.size 9 #[.string D]) := Lib.hid (Blk.new _ _ _)
                    have HSA : Hid (w.heap.size ≤ (wj.alloc (.cells #[.string D] 9)).heap.size) := Lib.hid (Nat.le_trans HGJ.out.size (kp_alloc wj _).size)
                    go_wp2_with (at_builtin; refine wpList_os rfl (.tmp 85) (.tmp 87) rfl _ rfl HOA.out HSA.out (by have := HKS.out; omega) D wj.heap.size rfl HBA.out ?_)
                    intro v5 wk hos hgr
                    obtain ⟨hqk, hgk⟩ := APP.out _ _ _ _ _ HOA.out (HQJ.out.keep (kp_alloc wj _)) (Gr.trans HGJ.out ((kp_alloc wj _).gr g)) hgr
                    obtain ⟨y5, z5, a5⟩ := addB S D (m := 132 + (4 - k) * 1000) (n := 1000) (by have := HSZ.out; omega) HDZ.out (by omega)
                    have HZ5 := Lib.hid z5; have HOK := Lib.hid hos; have HQK := Lib.hid hqk; have HGK := Lib.hid hgk
                    obtain ⟨oa5, oc5, hv5, -, -⟩ := hos.form
                    obtain ⟨ol5, hol5⟩ : ∃ l, l = (ss ++ [D]).length := ⟨_, rfl⟩
                    rw [← hol5] at hv5
                    subst hv5
                    clear hos hgr hqk hgk z5 hol5
                    go_wp2_with fail
                    go_roundw
                    case rel => exact ⟨y5, ss ++ [D], k, rfl, by go_num, by omega, by have := HZ5.out; omega, HOK.out, by have := HKS.out; rw [List.length_append]; simp only [List.length_cons, List.length_nil]; omega, HQK.out, HGK.out⟩
                    case measure => (first | (simp [intOf]; omega) | simp [intOf])

                  | false =>
                    go_wp2_with fail
                    go_roundw
                    case rel => exact ⟨S, ss, k, rfl, by go_num, by omega, by have := HSZ.out; omega, HOJ.out, by have := HKS.out; omega, HQJ.out, HGJ.out⟩
                    case measure => (first | (simp [intOf]; omega) | simp [intOf])
                | false =>
                  have HQJ := Lib.hid (HQH.out.less (m := n + 4 + 251 * k) (by omega)); have HGJ := HGH; have HOJ := HOH
                  have HOA := Lib.hid (HOJ.out.keep (kp_alloc wh (.cells #[.string D] 9)))
                  have HBA : Hid (Blk (wh.alloc (.cells #[.string D] 9)) wh.heap.size 9 #[.string D]) := Lib.hid (Blk.new _ _ _)
                  have HSA : Hid (w.heap.size ≤ (wh.alloc (.cells #[.string D] 9)).heap.size) := Lib.hid (Nat.le_trans HGJ.out.size (kp_alloc wh _).size)
                  go_wp2_with (at_builtin; refine wpList_os rfl (.tmp 85) (.tmp 87) rfl _ rfl HOA.out HSA.out (by have := HKS.out; omega) D wh.heap.size rfl HBA.out ?_)
                  intro v5 wk hos hgr
                  obtain ⟨hqk, hgk⟩ := APP.out _ _ _ _ _ HOA.out (HQJ.out.keep (kp_alloc wh _)) (Gr.trans HGJ.out ((kp_alloc wh _).gr g)) hgr
                  obtain ⟨y5, z5, a5⟩ := addB S D (m := 132 + (4 - k) * 1000) (n := 1000) (by have := HSZ.out; omega) HDZ.out (by omega)
                  have HZ5 := Lib.hid z5; have HOK := Lib.hid hos; have HQK := Lib.hid hqk; have HGK := Lib.hid hgk
                  obtain ⟨oa5, oc5, hv5, -, -⟩ := hos.form
                  obtain ⟨ol5, hol5⟩ : ∃ l, l = (ss ++ [D]).length := ⟨_, rfl⟩
                  rw [← hol5] at hv5
                  subst hv5
                  clear hos hgr hqk hgk z5 hol5
                  go_wp2_with fail
                  go_roundw
                  case rel => exact ⟨y5, ss ++ [D], k, rfl, by go_num, by omega, by have := HZ5.out; omega, HOK.out, by have := HKS.out; rw [List.length_append]; simp only [List.length_cons, List.length_nil]; omega, HQK.out, HGK.out⟩
                  case measure => (first | (simp [intOf]; omega) | simp [intOf])

      · go_wp2_with fail
        refine (Packages_q g _ (HLW.out _ HGR.out)).mono ?_
        rintro e wA ⟨vA, rfl, hpA, hkA⟩
        obtain ⟨aoA, capA, hvA, -, -⟩ := hpA.ex
        subst hvA
        have HGA := Lib.hid (Gr.trans HGR.out (hkA.gr g)); have HOA := Lib.hid (HOS.out.keep hkA)
        have HOC := Lib.hid (One_q (n := n + 1290 + k') ((HQR.out.keep hkA).less (by omega)) hpA)
        clear hpA hkA
        go_wp2_with fail
        refine HOC.out.mono ?_
        rintro e wB ⟨⟨q, rfl, hqz, -⟩, hqB, hgB⟩
        have HQB := Lib.hid hqB; have HGB := Lib.hid (Gr.trans HGA.out hgB); have HOB := Lib.hid (HOA.out.gr hgB HGW.out); have HQZ := Lib.hid hqz
        obtain ⟨bq, hbq⟩ : ∃ b, b = (q.toList == PK.toList) := ⟨_, rfl⟩
        have hbq' : (q.toList == PK.toList) = bq := hbq.symm
        clear hqB hgB hqz hbq
        cases bq with
        | true =>
          go_wp2_with fail
          go_roundw
          case rel => exact ⟨S, ss, k', rfl, by go_num, by omega, by have := HSZ.out; omega, HOB.out, by have := HKS.out; omega, HQB.out, HGB.out⟩
          case measure => (first | (simp [intOf]; omega) | simp [intOf])
        | false =>
          have HHC := Lib.hid (Has_q HOB.out (by have := HKS.out; omega) q)
          go_wp2_with fail
          refine HHC.out.mono ?_
          rintro e wh ⟨⟨bh, rfl⟩, hkh⟩
          have HQH := Lib.hid (HQB.out.keep hkh); have HGH := Lib.hid (Gr.trans HGB.out (hkh.gr g)); have HOH := Lib.hid (HOB.out.keep hkh)
          clear hkh
          cases bh with
          | true =>
            go_wp2_with fail
            go_roundw
            case rel => exact ⟨S, ss, k', rfl, by go_num, by omega, by have := HSZ.out; omega, HOH.out, by have := HKS.out; omega, HQH.out, HGH.out⟩
            case measure => (first | (simp [intOf]; omega) | simp [intOf])
          | false =>
            have HOA2 := Lib.hid (HOH.out.keep (kp_alloc wh (.cells #[.string q] 9)))
            have HBA : Hid (Blk (wh.alloc (.cells #[.string q] 9)) wh.heap.size 9 #[.string q]) := Lib.hid (Blk.new _ _ _)
            have HSA : Hid (w.heap.size ≤ (wh.alloc (.cells #[.string q] 9)).heap.size) := Lib.hid (Nat.le_trans HGH.out.size (kp_alloc wh _).size)
            go_wp2_with (at_builtin; refine wpList_os rfl (.tmp 39) (.tmp 41) rfl _ rfl HOA2.out HSA.out (by have := HKS.out; omega) q wh.heap.size rfl HBA.out ?_)
            intro v5 wk hos hgr
            obtain ⟨hqk, hgk⟩ := APP.out _ _ _ _ _ HOA2.out (HQH.out.keep (kp_alloc wh _)) (Gr.trans HGH.out ((kp_alloc wh _).gr g)) hgr
            obtain ⟨y1, z1, a1⟩ := addB ⟨#[105, 109, 112, 111, 114, 116, 32]⟩ q (m := 7) (by decide) HQZ.out (by omega)
            obtain ⟨y2, z2, a2⟩ := addB y1 ⟨#[59, 10]⟩ (n := 2) z1 (by decide) (by omega)
            obtain ⟨y3, z3, a3⟩ := addB S y2 (m := 52 + (1 - k') * 40) (by have := HSZ.out; omega) z2 (by omega)
            have HZ3 := Lib.hid z3; have HOK := Lib.hid hos; have HQK := Lib.hid hqk; have HGK := Lib.hid hgk
            obtain ⟨oa5, oc5, hv5, -, -⟩ := hos.form
            obtain ⟨ol5, hol5⟩ : ∃ l, l = (ss ++ [q]).length := ⟨_, rfl⟩
            rw [← hol5] at hv5
            subst hv5
            clear hos hgr hqk hgk z1 z2 z3 hol5
            go_wp2_with fail
            go_roundw
            case rel => exact ⟨y3, ss ++ [q], k', rfl, by go_num, by omega, by have := HZ3.out; omega, HOK.out, by have := HKS.out; rw [List.length_append]; simp only [List.length_cons, List.length_nil]; omega, HQK.out, HGK.out⟩
            case measure => (first | (simp [intOf]; omega) | simp [intOf])

  | false =>
    obtain ⟨S0, hS0⟩ : ∃ S0, S0 = p2 := ⟨_, rfl⟩
    rw [← hS0] at HZ2 ⊢
    have HZ0 : Hid (S0.size ≤ 52) := Lib.hid (by have := HZ2.out; omega)
    clear hS0
    have HC3 := Lib.hid (Next_q (n := n + 1298) HQM.out 3 (by omega) (by omega))
    go_wp2_with fail
    refine HC3.out.mono ?_
    rintro e w1 ⟨⟨k1, hk1, rfl⟩, hq, hg⟩
    have HQ1 : Hid (Tq w0 w1 g (n + 1298)) := Lib.hid hq
    have HG1 : Hid (Gr g w w1) := Lib.hid (Gr.trans HGM.out hg)
    clear hq hg
    go_wp2_with fail
    go_loopw [5, 6, 7] (fun s v i wr => ∃ (S : ByteArray) (ss : List ByteArray) (k : Nat), s = .string S ∧ i = .int .i64 k ∧ k ≤ 2 ∧ S.size ≤ 52 + (2 - k) * 40 ∧ Os w.heap.size wr v ss ∧ ss.length + k ≤ 2 ∧ Tq w0 wr g (n + 1290 + k) ∧ Gr g w wr) (fun _ _ i _ => (intOf i).toNat)
    case atStart => exact ⟨S0, [], k1, rfl, rfl, by omega, by have := HZ0.out; omega, Os.nil _ _, by simp; omega, HQ1.out.less (by omega), HG1.out⟩
    case round =>
      obtain ⟨S, ss, k, rfl, rfl, hk, hsz, hos, hks, hqr, hgr⟩ := hrel
      rename World => wr
      have HSZ := Lib.hid hsz; have HOS := Lib.hid hos; have HKS := Lib.hid hks; have HQR := Lib.hid hqr; have HGR := Lib.hid hgr
      obtain ⟨oa, oc, hv, -, -⟩ := hos.form
      obtain ⟨ol, hol⟩ : ∃ l, l = ss.length := ⟨_, rfl⟩
      rw [← hol] at hv
      subst hv
      clear hsz hos hks hqr hgr hol
      rcases (show k = 0 ∨ ∃ k', k = k' + 1 by cases k with | zero => exact .inl rfl | succ k' => exact .inr ⟨k', rfl⟩) with rfl | ⟨k', rfl⟩
      · have HC5 := Lib.hid (Next_q (n := n + 1289) HQR.out 5 (by omega) (by omega))
        go_wp2_with fail
        refine HC5.out.mono ?_
        rintro e w5 ⟨⟨k5, hk5, rfl⟩, hq, hg⟩
        have HQ5 : Hid (Tq w0 w5 g (n + 1289)) := Lib.hid hq
        have HG5 : Hid (Gr g w w5) := Lib.hid (Gr.trans HGR.out hg)
        have HS5 : Hid (S.size ≤ 132) := Lib.hid (by have := HSZ.out; omega)
        clear hq hg HSZ HOS HKS HQR HGR HQ1 HG1 HZ0
        go_wp2_with fail
        go_loopw [5, 9, 10] (fun s v i wr => ∃ (S : ByteArray) (ss : List ByteArray) (k : Nat), s = .string S ∧ i = .int .i64 k ∧ k ≤ 5 ∧ S.size ≤ 132 + (5 - k) * 1000 ∧ Os w.heap.size wr v ss ∧ ss.length + k ≤ 5 ∧ Tq w0 wr g (n + 4 + 251 * k) ∧ Gr g w wr) (fun _ _ i _ => (intOf i).toNat)
        case atStart => exact ⟨S, [], k5 + 1, rfl, by go_num, by omega, by have := HS5.out; omega, Os.nil _ _, by simp; omega, HQ5.out.less (by omega), HG5.out⟩
        case round =>
          clear HS5
          obtain ⟨S, ss, k, rfl, rfl, hk, hsz, hos, hks, hqr, hgr⟩ := hrel
          rename World => wr2
          have HSZ := Lib.hid hsz; have HOS := Lib.hid hos; have HKS := Lib.hid hks; have HQR := Lib.hid hqr; have HGR := Lib.hid hgr
          obtain ⟨oa2, oc2, hv, -, -⟩ := hos.form
          obtain ⟨ol2, hol⟩ : ∃ l, l = ss.length := ⟨_, rfl⟩
          rw [← hol] at hv
          subst hv
          clear hsz hos hks hqr hgr hol
          rcases (show k = 0 ∨ ∃ k', k = k' + 1 by cases k with | zero => exact .inl rfl | succ k' => exact .inr ⟨k', rfl⟩) with rfl | ⟨k, rfl⟩
          · have HC30 := Lib.hid (Chance_q (n := n + 3) HQR.out 1 30 (by omega) (by omega))
            go_wp2_with fail
            refine HC30.out.mono ?_
            rintro e w6 ⟨⟨b6, rfl⟩, hq, hg⟩
            have HQ6 : Hid (Tq w0 w6 g (n + 3)) := Lib.hid hq
            have HG6 : Hid (Gr g w w6) := Lib.hid (Gr.trans HGR.out hg)
            clear hq hg
            cases b6 with
            | true =>
              have HOC := Lib.hid (One_t (n := n) ((HQ6.out.less (by omega)).keep (kp_alloc w6 (.cells #[.string ⟨#[102, 117, 110, 99]⟩, .string ⟨#[125]⟩, .string ⟨#[34]⟩, .string ⟨#[116, 101, 115, 116, 32, 116, 32, 61, 32, 49, 59]⟩, .string ⟨#[120]⟩] 9))) (Pt.blk (ss := [⟨#[102, 117, 110, 99]⟩, ⟨#[125]⟩, ⟨#[34]⟩, ⟨#[116, 101, 115, 116, 32, 116, 32, 61, 32, 49, 59]⟩, ⟨#[120]⟩]) (Blk.new w6 _ _) (by have := HLW.out _ HG6.out; omega) (by decide) (by decide)))
              go_wp2_with fail
              refine HOC.out.mono ?_
              rintro e w7 ⟨⟨s, rfl, hs, -⟩, hq, hg⟩
              obtain ⟨y1, z1, a1⟩ := addB S s (m := 5132) (by have := HSZ.out; omega) hs (by omega)
              have HZ1 := Lib.hid z1; have HQ7 := Lib.hid hq; have HG7 := Lib.hid (Gr.trans (Gr.trans HG6.out ((kp_alloc w6 _).gr g)) hg)
              clear hs hq hg z1
              go_wp2_with fail
              exact FIN.out _ _ HZ1.out (by omega) HQ7.out HG7.out
            | false =>
              go_wp2_with fail
              exact FIN.out S _ (k := 5132) (by have := HSZ.out; omega) (by omega) (HQ6.out.less (by omega)) HG6.out
          · have HDC := Lib.hid (Decl_q (n := n + 4 + 251 * k + 1) (HQR.out.less (by omega)))
            go_wp2_with fail
            refine HDC.out.mono ?_
            rintro e wd ⟨⟨D, rfl, hdz⟩, hq, hg⟩
            have HQD : Hid (Tq w0 wd g (n + 4 + 251 * k + 1)) := Lib.hid hq
            have HGD : Hid (Gr g w wd) := Lib.hid (Gr.trans HGR.out hg)
            have HOD := Lib.hid (HOS.out.gr hg HGW.out)
            have HDZ := Lib.hid hdz
            obtain ⟨dl, hdl⟩ : ∃ l, l = bs D := ⟨_, rfl⟩
            have hDl : D = st dl := by rw [hdl, st_bs]
            have hdlt : Lt dl := hdl ▸ bs_lt D
            obtain ⟨L, hL⟩ : ∃ L, L = dl.length := ⟨_, rfl⟩
            have qs : ∀ w, (Builtin.len_ #[9] 3 #[.string D]).run Tryz.prog w = .ok (goInt L) w := fun w => by rw [hL, hDl]; exact len w
            have hL2 : (L : Int) ≤ 1000 := by
              have : L = D.size := by rw [hL, hdl, bs_len]
              omega
            have HDL := Lib.hid hDl; have HLT := Lib.hid hdlt; have HL := Lib.hid hL
            clear hq hg hdz hdl hDl hdlt hL
            go_wp2_with fail
            go_loop [12, 13] (fun h i => ∃ j : Nat, h = .string D ∧ i = .int .i64 j ∧ j ≤ L) (fun _ i => L - (intOf i).toNat)
            case atStart => exact ⟨0, rfl, rfl, Nat.zero_le _⟩
            case round =>
              obtain ⟨j, rfl, rfl, hj⟩ := hrel
              by_cases hjl : j < L
              · have hx : ∀ w, (Instr.index 9 (.string D) (.int .i64 (j : Int))).run Tryz.prog w = .ok (.int .u8 (at' dl j : Nat)) w := fun w => by rw [HDL.out]; exact idx HLT.out (by have := HL.out; omega) w
                obtain ⟨H, hH⟩ : ∃ H, H = st (dl.take j) := ⟨_, rfl⟩
                have hcut : ∀ w, (Instr.slice 9 (.string D) none (some (.int .i64 (j : Int))) none).run Tryz.prog w = .ok (.string H) w := fun w => by rw [HDL.out, hH]; exact cut_to (by have := HL.out; omega) w
                obtain ⟨c, hc⟩ : ∃ c, c = at' dl j := ⟨_, rfl⟩
                rw [← hc] at hx
                clear hc hH
                by_cases h40 : c = 40
                · have b1 : ((c : Int) == 40) = true := by rw [h40]; rfl
                  clear h40
                  go_wp2_with fail
                  refine (Has_q HOD.out (by have := HKS.out; omega) H).mono ?_
                  rintro e wh ⟨⟨bh, rfl⟩, hkh⟩
                  have HQH := Lib.hid (HQD.out.keep hkh); have HGH := Lib.hid (Gr.trans HGD.out (hkh.gr g)); have HOH := Lib.hid (HOD.out.keep hkh)
                  clear hkh
                  cases bh with
                  | true =>
                    have HCH := Lib.hid (Chance_q (n := n + 4 + 251 * k) HQH.out 1 40 (by omega) (by omega))
                    go_wp2_with fail
                    refine HCH.out.mono ?_
                    rintro e wj ⟨⟨bj, rfl⟩, hq, hg⟩
                    have HQJ : Hid (Tq w0 wj g (n + 4 + 251 * k)) := Lib.hid hq
                    have HGJ : Hid (Gr g w wj) := Lib.hid (Gr.trans HGH.out hg)
                    have HOJ := Lib.hid (HOH.out.gr hg HGW.out)
                    clear hq hg
                    cases bj with
                    | true =>
                      have HOA := Lib.hid (HOJ.out.keep (kp_alloc wj (.cells #[.string H] 9)))
                      have HBA : Hid (Blk (wj.alloc (.cells #[.string H] 9)) wj.heap.size 9 #[.string H]) := Lib.hid (Blk.new _ _ _)
                      have HSA : Hid (w.heap.size ≤ (wj.alloc (.cells #[.string H] 9)).heap.size) := Lib.hid (Nat.le_trans HGJ.out.size (kp_alloc wj _).size)
                      go_wp2_with (at_builtin; refine wpList_os rfl (.tmp 85) (.tmp 87) rfl _ rfl HOA.out HSA.out (by have := HKS.out; omega) H wj.heap.size rfl HBA.out ?_)
                      intro v5 wk hos hgr
                      obtain ⟨hqk, hgk⟩ := APP.out _ _ _ _ _ HOA.out (HQJ.out.keep (kp_alloc wj _)) (Gr.trans HGJ.out ((kp_alloc wj _).gr g)) hgr
                      obtain ⟨y5, z5, a5⟩ := addB S D (m := 132 + (4 - k) * 1000) (n := 1000) (by have := HSZ.out; omega) HDZ.out (by omega)
                      have HZ5 := Lib.hid z5; have HOK := Lib.hid hos; have HQK := Lib.hid hqk; have HGK := Lib.hid hgk
                      obtain ⟨oa5, oc5, hv5, -, -⟩ := hos.form
                      obtain ⟨ol5, hol5⟩ : ∃ l, l = (ss ++ [H]).length := ⟨_, rfl⟩
                      rw [← hol5] at hv5
                      subst hv5
                      clear hos hgr hqk hgk z5 hol5
                      go_wp2_with fail
                      go_roundw
                      case rel => exact ⟨y5, ss ++ [H], k, rfl, by go_num, by omega, by have := HZ5.out; omega, HOK.out, by have := HKS.out; rw [List.length_append]; simp only [List.length_cons, List.length_nil]; omega, HQK.out, HGK.out⟩
                      case measure => (first | (simp [intOf]; omega) | simp [intOf])

                    | false =>
                      go_wp2_with fail
                      go_roundw
                      case rel => exact ⟨S, ss, k, rfl, by go_num, by omega, by have := HSZ.out; omega, HOJ.out, by have := HKS.out; omega, HQJ.out, HGJ.out⟩
                      case measure => (first | (simp [intOf]; omega) | simp [intOf])
                  | false =>
                    have HQJ := Lib.hid (HQH.out.less (m := n + 4 + 251 * k) (by omega)); have HGJ := HGH; have HOJ := HOH
                    have HOA := Lib.hid (HOJ.out.keep (kp_alloc wh (.cells #[.string H] 9)))
                    have HBA : Hid (Blk (wh.alloc (.cells #[.string H] 9)) wh.heap.size 9 #[.string H]) := Lib.hid (Blk.new _ _ _)
                    have HSA : Hid (w.heap.size ≤ (wh.alloc (.cells #[.string H] 9)).heap.size) := Lib.hid (Nat.le_trans HGJ.out.size (kp_alloc wh _).size)
                    go_wp2_with (at_builtin; refine wpList_os rfl (.tmp 85) (.tmp 87) rfl _ rfl HOA.out HSA.out (by have := HKS.out; omega) H wh.heap.size rfl HBA.out ?_)
                    intro v5 wk hos hgr
                    obtain ⟨hqk, hgk⟩ := APP.out _ _ _ _ _ HOA.out (HQJ.out.keep (kp_alloc wh _)) (Gr.trans HGJ.out ((kp_alloc wh _).gr g)) hgr
                    obtain ⟨y5, z5, a5⟩ := addB S D (m := 132 + (4 - k) * 1000) (n := 1000) (by have := HSZ.out; omega) HDZ.out (by omega)
                    have HZ5 := Lib.hid z5; have HOK := Lib.hid hos; have HQK := Lib.hid hqk; have HGK := Lib.hid hgk
                    obtain ⟨oa5, oc5, hv5, -, -⟩ := hos.form
                    obtain ⟨ol5, hol5⟩ : ∃ l, l = (ss ++ [H]).length := ⟨_, rfl⟩
                    rw [← hol5] at hv5
                    subst hv5
                    clear hos hgr hqk hgk z5 hol5
                    go_wp2_with fail
                    go_roundw
                    case rel => exact ⟨y5, ss ++ [H], k, rfl, by go_num, by omega, by have := HZ5.out; omega, HOK.out, by have := HKS.out; rw [List.length_append]; simp only [List.length_cons, List.length_nil]; omega, HQK.out, HGK.out⟩
                    case measure => (first | (simp [intOf]; omega) | simp [intOf])

                · have b1 : ((c : Int) == 40) = false := beq_eq_false_iff_ne.2 (by omega)
                  by_cases h61 : c = 61
                  · have b2 : ((c : Int) == 61) = true := by rw [h61]; rfl
                    clear h40 h61
                    go_wp2_with fail
                    refine (Has_q HOD.out (by have := HKS.out; omega) H).mono ?_
                    rintro e wh ⟨⟨bh, rfl⟩, hkh⟩
                    have HQH := Lib.hid (HQD.out.keep hkh); have HGH := Lib.hid (Gr.trans HGD.out (hkh.gr g)); have HOH := Lib.hid (HOD.out.keep hkh)
                    clear hkh
                    cases bh with
                    | true =>
                      have HCH := Lib.hid (Chance_q (n := n + 4 + 251 * k) HQH.out 1 40 (by omega) (by omega))
                      go_wp2_with fail
                      refine HCH.out.mono ?_
                      rintro e wj ⟨⟨bj, rfl⟩, hq, hg⟩
                      have HQJ : Hid (Tq w0 wj g (n + 4 + 251 * k)) := Lib.hid hq
                      have HGJ : Hid (Gr g w wj) := Lib.hid (Gr.trans HGH.out hg)
                      have HOJ := Lib.hid (HOH.out.gr hg HGW.out)
                      clear hq hg
                      cases bj with
                      | true =>
                        have HOA := Lib.hid (HOJ.out.keep (kp_alloc wj (.cells #[.string H] 9)))
                        have HBA : Hid (Blk (wj.alloc (.cells #[.string H] 9)) wj.heap.size 9 #[.string H]) := Lib.hid (Blk.new _ _ _)
                        have HSA : Hid (w.heap.size ≤ (wj.alloc (.cells #[.string H] 9)).heap.size) := Lib.hid (Nat.le_trans HGJ.out.size (kp_alloc wj _).size)
                        go_wp2_with (at_builtin; refine wpList_os rfl (.tmp 85) (.tmp 87) rfl _ rfl HOA.out HSA.out (by have := HKS.out; omega) H wj.heap.size rfl HBA.out ?_)
                        intro v5 wk hos hgr
                        obtain ⟨hqk, hgk⟩ := APP.out _ _ _ _ _ HOA.out (HQJ.out.keep (kp_alloc wj _)) (Gr.trans HGJ.out ((kp_alloc wj _).gr g)) hgr
                        obtain ⟨y5, z5, a5⟩ := addB S D (m := 132 + (4 - k) * 1000) (n := 1000) (by have := HSZ.out; omega) HDZ.out (by omega)
                        have HZ5 := Lib.hid z5; have HOK := Lib.hid hos; have HQK := Lib.hid hqk; have HGK := Lib.hid hgk
                        obtain ⟨oa5, oc5, hv5, -, -⟩ := hos.form
                        obtain ⟨ol5, hol5⟩ : ∃ l, l = (ss ++ [H]).length := ⟨_, rfl⟩
                        rw [← hol5] at hv5
                        subst hv5
                        clear hos hgr hqk hgk z5 hol5
                        go_wp2_with fail
                        go_roundw
                        case rel => exact ⟨y5, ss ++ [H], k, rfl, by go_num, by omega, by have := HZ5.out; omega, HOK.out, by have := HKS.out; rw [List.length_append]; simp only [List.length_cons, List.length_nil]; omega, HQK.out, HGK.out⟩
                        case measure => (first | (simp [intOf]; omega) | simp [intOf])

                      | false =>
                        go_wp2_with fail
                        go_roundw
                        case rel => exact ⟨S, ss, k, rfl, by go_num, by omega, by have := HSZ.out; omega, HOJ.out, by have := HKS.out; omega, HQJ.out, HGJ.out⟩
                        case measure => (first | (simp [intOf]; omega) | simp [intOf])
                    | false =>
                      have HQJ := Lib.hid (HQH.out.less (m := n + 4 + 251 * k) (by omega)); have HGJ := HGH; have HOJ := HOH
                      have HOA := Lib.hid (HOJ.out.keep (kp_alloc wh (.cells #[.string H] 9)))
                      have HBA : Hid (Blk (wh.alloc (.cells #[.string H] 9)) wh.heap.size 9 #[.string H]) := Lib.hid (Blk.new _ _ _)
                      have HSA : Hid (w.heap.size ≤ (wh.alloc (.cells #[.string H] 9)).heap.size) := Lib.hid (Nat.le_trans HGJ.out.size (kp_alloc wh _).size)
                      go_wp2_with (at_builtin; refine wpList_os rfl (.tmp 85) (.tmp 87) rfl _ rfl HOA.out HSA.out (by have := HKS.out; omega) H wh.heap.size rfl HBA.out ?_)
                      intro v5 wk hos hgr
                      obtain ⟨hqk, hgk⟩ := APP.out _ _ _ _ _ HOA.out (HQJ.out.keep (kp_alloc wh _)) (Gr.trans HGJ.out ((kp_alloc wh _).gr g)) hgr
                      obtain ⟨y5, z5, a5⟩ := addB S D (m := 132 + (4 - k) * 1000) (n := 1000) (by have := HSZ.out; omega) HDZ.out (by omega)
                      have HZ5 := Lib.hid z5; have HOK := Lib.hid hos; have HQK := Lib.hid hqk; have HGK := Lib.hid hgk
                      obtain ⟨oa5, oc5, hv5, -, -⟩ := hos.form
                      obtain ⟨ol5, hol5⟩ : ∃ l, l = (ss ++ [H]).length := ⟨_, rfl⟩
                      rw [← hol5] at hv5
                      subst hv5
                      clear hos hgr hqk hgk z5 hol5
                      go_wp2_with fail
                      go_roundw
                      case rel => exact ⟨y5, ss ++ [H], k, rfl, by go_num, by omega, by have := HZ5.out; omega, HOK.out, by have := HKS.out; rw [List.length_append]; simp only [List.length_cons, List.length_nil]; omega, HQK.out, HGK.out⟩
                      case measure => (first | (simp [intOf]; omega) | simp [intOf])

                  · have b2 : ((c : Int) == 61) = false := beq_eq_false_iff_ne.2 (by omega)
                    clear h40 h61
                    go_wp2_with fail
                    go_round
                    case rel => exact ⟨j + 1, rfl, by go_num, by omega⟩
                    case measure => (first | (simp [intOf]; omega) | simp [intOf])
              · obtain rfl : j = L := by omega
                clear hjl
                go_wp2_with fail
                refine (Has_q HOD.out (by have := HKS.out; omega) D).mono ?_
                rintro e wh ⟨⟨bh, rfl⟩, hkh⟩
                have HQH := Lib.hid (HQD.out.keep hkh); have HGH := Lib.hid (Gr.trans HGD.out (hkh.gr g)); have HOH := Lib.hid (HOD.out.keep hkh)
                clear hkh
                cases bh with
                | true =>
                  have HCH := Lib.hid (Chance_q (n := n + 4 + 251 * k) HQH.out 1 40 (by omega) (by omega))
                  go_wp2_with fail
                  refine HCH.out.mono ?_
                  rintro e wj ⟨⟨bj, rfl⟩, hq, hg⟩
                  have HQJ : Hid (Tq w0 wj g (n + 4 + 251 * k)) := Lib.hid hq
                  have HGJ : Hid (Gr g w wj) := Lib.hid (Gr.trans HGH.out hg)
                  have HOJ := Lib.hid (HOH.out.gr hg HGW.out)
                  clear hq hg
                  cases bj with
                  | true =>
                    have HOA := Lib.hid (HOJ.out.keep (kp_alloc wj (.cells #[.string D] 9)))
                    have HBA : Hid (Blk (wj.alloc (.cells #[.string D] 9)) wj.heap.size 9 #[.string D]) := Lib.hid (Blk.new _ _ _)
                    have HSA : Hid (w.heap.size ≤ (wj.alloc (.cells #[.string D] 9)).heap.size) := Lib.hid (Nat.le_trans HGJ.out.size (kp_alloc wj _).size)
                    go_wp2_with (at_builtin; refine wpList_os rfl (.tmp 85) (.tmp 87) rfl _ rfl HOA.out HSA.out (by have := HKS.out; omega) D wj.heap.size rfl HBA.out ?_)
                    intro v5 wk hos hgr
                    obtain ⟨hqk, hgk⟩ := APP.out _ _ _ _ _ HOA.out (HQJ.out.keep (kp_alloc wj _)) (Gr.trans HGJ.out ((kp_alloc wj _).gr g)) hgr
                    obtain ⟨y5, z5, a5⟩ := addB S D (m := 132 + (4 - k) * 1000) (n := 1000) (by have := HSZ.out; omega) HDZ.out (by omega)
                    have HZ5 := Lib.hid z5; have HOK := Lib.hid hos; have HQK := Lib.hid hqk; have HGK := Lib.hid hgk
                    obtain ⟨oa5, oc5, hv5, -, -⟩ := hos.form
                    obtain ⟨ol5, hol5⟩ : ∃ l, l = (ss ++ [D]).length := ⟨_, rfl⟩
                    rw [← hol5] at hv5
                    subst hv5
                    clear hos hgr hqk hgk z5 hol5
                    go_wp2_with fail
                    go_roundw
                    case rel => exact ⟨y5, ss ++ [D], k, rfl, by go_num, by omega, by have := HZ5.out; omega, HOK.out, by have := HKS.out; rw [List.length_append]; simp only [List.length_cons, List.length_nil]; omega, HQK.out, HGK.out⟩
                    case measure => (first | (simp [intOf]; omega) | simp [intOf])

                  | false =>
                    go_wp2_with fail
                    go_roundw
                    case rel => exact ⟨S, ss, k, rfl, by go_num, by omega, by have := HSZ.out; omega, HOJ.out, by have := HKS.out; omega, HQJ.out, HGJ.out⟩
                    case measure => (first | (simp [intOf]; omega) | simp [intOf])
                | false =>
                  have HQJ := Lib.hid (HQH.out.less (m := n + 4 + 251 * k) (by omega)); have HGJ := HGH; have HOJ := HOH
                  have HOA := Lib.hid (HOJ.out.keep (kp_alloc wh (.cells #[.string D] 9)))
                  have HBA : Hid (Blk (wh.alloc (.cells #[.string D] 9)) wh.heap.size 9 #[.string D]) := Lib.hid (Blk.new _ _ _)
                  have HSA : Hid (w.heap.size ≤ (wh.alloc (.cells #[.string D] 9)).heap.size) := Lib.hid (Nat.le_trans HGJ.out.size (kp_alloc wh _).size)
                  go_wp2_with (at_builtin; refine wpList_os rfl (.tmp 85) (.tmp 87) rfl _ rfl HOA.out HSA.out (by have := HKS.out; omega) D wh.heap.size rfl HBA.out ?_)
                  intro v5 wk hos hgr
                  obtain ⟨hqk, hgk⟩ := APP.out _ _ _ _ _ HOA.out (HQJ.out.keep (kp_alloc wh _)) (Gr.trans HGJ.out ((kp_alloc wh _).gr g)) hgr
                  obtain ⟨y5, z5, a5⟩ := addB S D (m := 132 + (4 - k) * 1000) (n := 1000) (by have := HSZ.out; omega) HDZ.out (by omega)
                  have HZ5 := Lib.hid z5; have HOK := Lib.hid hos; have HQK := Lib.hid hqk; have HGK := Lib.hid hgk
                  obtain ⟨oa5, oc5, hv5, -, -⟩ := hos.form
                  obtain ⟨ol5, hol5⟩ : ∃ l, l = (ss ++ [D]).length := ⟨_, rfl⟩
                  rw [← hol5] at hv5
                  subst hv5
                  clear hos hgr hqk hgk z5 hol5
                  go_wp2_with fail
                  go_roundw
                  case rel => exact ⟨y5, ss ++ [D], k, rfl, by go_num, by omega, by have := HZ5.out; omega, HOK.out, by have := HKS.out; rw [List.length_append]; simp only [List.length_cons, List.length_nil]; omega, HQK.out, HGK.out⟩
                  case measure => (first | (simp [intOf]; omega) | simp [intOf])

      · go_wp2_with fail
        refine (Packages_q g _ (HLW.out _ HGR.out)).mono ?_
        rintro e wA ⟨vA, rfl, hpA, hkA⟩
        obtain ⟨aoA, capA, hvA, -, -⟩ := hpA.ex
        subst hvA
        have HGA := Lib.hid (Gr.trans HGR.out (hkA.gr g)); have HOA := Lib.hid (HOS.out.keep hkA)
        have HOC := Lib.hid (One_q (n := n + 1290 + k') ((HQR.out.keep hkA).less (by omega)) hpA)
        clear hpA hkA
        go_wp2_with fail
        refine HOC.out.mono ?_
        rintro e wB ⟨⟨q, rfl, hqz, -⟩, hqB, hgB⟩
        have HQB := Lib.hid hqB; have HGB := Lib.hid (Gr.trans HGA.out hgB); have HOB := Lib.hid (HOA.out.gr hgB HGW.out); have HQZ := Lib.hid hqz
        obtain ⟨bq, hbq⟩ : ∃ b, b = (q.toList == PK.toList) := ⟨_, rfl⟩
        have hbq' : (q.toList == PK.toList) = bq := hbq.symm
        clear hqB hgB hqz hbq
        cases bq with
        | true =>
          go_wp2_with fail
          go_roundw
          case rel => exact ⟨S, ss, k', rfl, by go_num, by omega, by have := HSZ.out; omega, HOB.out, by have := HKS.out; omega, HQB.out, HGB.out⟩
          case measure => (first | (simp [intOf]; omega) | simp [intOf])
        | false =>
          have HHC := Lib.hid (Has_q HOB.out (by have := HKS.out; omega) q)
          go_wp2_with fail
          refine HHC.out.mono ?_
          rintro e wh ⟨⟨bh, rfl⟩, hkh⟩
          have HQH := Lib.hid (HQB.out.keep hkh); have HGH := Lib.hid (Gr.trans HGB.out (hkh.gr g)); have HOH := Lib.hid (HOB.out.keep hkh)
          clear hkh
          cases bh with
          | true =>
            go_wp2_with fail
            go_roundw
            case rel => exact ⟨S, ss, k', rfl, by go_num, by omega, by have := HSZ.out; omega, HOH.out, by have := HKS.out; omega, HQH.out, HGH.out⟩
            case measure => (first | (simp [intOf]; omega) | simp [intOf])
          | false =>
            have HOA2 := Lib.hid (HOH.out.keep (kp_alloc wh (.cells #[.string q] 9)))
            have HBA : Hid (Blk (wh.alloc (.cells #[.string q] 9)) wh.heap.size 9 #[.string q]) := Lib.hid (Blk.new _ _ _)
            have HSA : Hid (w.heap.size ≤ (wh.alloc (.cells #[.string q] 9)).heap.size) := Lib.hid (Nat.le_trans HGH.out.size (kp_alloc wh _).size)
            go_wp2_with (at_builtin; refine wpList_os rfl (.tmp 39) (.tmp 41) rfl _ rfl HOA2.out HSA.out (by have := HKS.out; omega) q wh.heap.size rfl HBA.out ?_)
            intro v5 wk hos hgr
            obtain ⟨hqk, hgk⟩ := APP.out _ _ _ _ _ HOA2.out (HQH.out.keep (kp_alloc wh _)) (Gr.trans HGH.out ((kp_alloc wh _).gr g)) hgr
            obtain ⟨y1, z1, a1⟩ := addB ⟨#[105, 109, 112, 111, 114, 116, 32]⟩ q (m := 7) (by decide) HQZ.out (by omega)
            obtain ⟨y2, z2, a2⟩ := addB y1 ⟨#[59, 10]⟩ (n := 2) z1 (by decide) (by omega)
            obtain ⟨y3, z3, a3⟩ := addB S y2 (m := 52 + (1 - k') * 40) (by have := HSZ.out; omega) z2 (by omega)
            have HZ3 := Lib.hid z3; have HOK := Lib.hid hos; have HQK := Lib.hid hqk; have HGK := Lib.hid hgk
            obtain ⟨oa5, oc5, hv5, -, -⟩ := hos.form
            obtain ⟨ol5, hol5⟩ : ∃ l, l = (ss ++ [q]).length := ⟨_, rfl⟩
            rw [← hol5] at hv5
            subst hv5
            clear hos hgr hqk hgk z1 z2 z3 hol5
            go_wp2_with fail
            go_roundw
            case rel => exact ⟨y3, ss ++ [q], k', rfl, by go_num, by omega, by have := HZ3.out; omega, HOK.out, by have := HKS.out; rw [List.length_append]; simp only [List.length_cons, List.length_nil]; omega, HQK.out, HGK.out⟩
            case measure => (first | (simp [intOf]; omega) | simp [intOf])

theorem Source_q {w0 w : World} {g n : Nat} {PK : ByteArray} (ht : Tq w0 w g (n + 1300)) (hpk : PK.size ≤ 30) : Calls Tryz.prog 49 #[.pointer (some ⟨g, 0, none⟩), .string PK] w (StrR w0 g n 13500 w) :=
  (Source_s ht hpk).mono fun _ _ ⟨⟨s, h1, h2⟩, h3, h4⟩ => ⟨⟨s, h1, by omega⟩, h3, h4⟩
end By
end Go.Proofs.YtfobogcccbddbaaGreatDoor
