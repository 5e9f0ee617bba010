/- Rows of strings of one's own; whether a string is among some; a declaration, drawn from the tape. Conditions: the tape has so many draws left; the rows lie apart from it. -/
import Derived.Test.YtfobogcccbddbaaGreatDoorMkF
import Derived.Maps.AppendAt
namespace Go.Proofs.YtfobogcccbddbaaGreatDoor
namespace By
open Go.RowKit WireN LexN
set_option linter.unusedVariables false
set_option linter.unusedSimpArgs false

/-- A row of strings in memory that was made from block B on. -/
structure Os (B : Nat) (w : World) (v : Value) (ss : List ByteArray) : Prop where
  owns : w.ownsRow B 9 1 v ss.length (ss.map Value.string)
theorem Os.nil (B : Nat) (w : World) : Os B w (.slice none 0 0) [] := ⟨World.ownsRow_nil _ _ _ _⟩
theorem Os.by {B : Nat} {w w' : World} {v : Value} {ss : List ByteArray} {row : Option Nat} (h : Os B w v ss) (hg : w.grownBy w' row) (hr : ∀ r, row = some r → r < B) : Os B w' v ss := by
  refine ⟨World.ownsRow.kept h.owns hg ?_⟩
  rcases h.owns.2 with ⟨rfl, _⟩ | ⟨g', cap', cur, rfl, hb', _⟩
  · exact .inl rfl
  · right
    intro e
    have := hr g' (by simpa [Value.ownBlock] using e.symm)
    omega
theorem Os.gr {B g : Nat} {w w' : World} {v : Value} {ss : List ByteArray} (h : Os B w v ss) (hg : Gr g w w') (hb : g < B) : Os B w' v ss := h.by hg (fun r hr => by injection hr with hr; omega)
theorem Os.keep {B : Nat} {w w' : World} {v : Value} {ss : List ByteArray} (h : Os B w v ss) (hk : Kp w w') : Os B w' v ss := h.by (row := none) ⟨hk.os, hk.tape, hk.output, hk.size, fun i hi _ => hk.block i hi⟩ (fun r hr => by cases hr)
theorem Os.form {B : Nat} {w : World} {v : Value} {ss : List ByteArray} (h : Os B w v ss) : ∃ ao cap, v = .slice ao ss.length cap ∧ ss.length ≤ cap ∧ (ss ≠ [] → ∃ b, ao = some ⟨b, 0, none⟩ ∧ B ≤ b ∧ ∀ i s, ss[i]? = some s → w.cell? ⟨b, i, none⟩ = some (.string s)) := by
  rcases h.owns.2 with ⟨rfl, h0⟩ | ⟨g, cap, cur, rfl, hb, hg, hnc, hcm, hsz, htake⟩
  · exact ⟨none, 0, by rw [h0], by omega, fun hne => absurd (List.length_eq_zero_iff.1 h0) hne⟩
  · refine ⟨some ⟨g, 0, none⟩, cap, rfl, hnc, fun _ => ⟨g, rfl, hb, fun i s hi => ?_⟩⟩
    have hlt := (List.getElem?_eq_some_iff.1 hi).1
    rw [cell_of_row w g i cur _ (0, 0) hg]
    have h1 : (ss.map Value.string)[i]? = some (.string s) := by simp [hi]
    rw [← htake, List.getElem?_take, if_pos (by omega)] at h1
    simpa using h1
theorem Os.ps {B g : Nat} {w : World} {v : Value} {ss : List ByteArray} (h : Os B w v ss) (hg : g < B) (hs : ∀ s ∈ ss, s.size ≤ 8) (hf : ss.length ≤ 10) : Ps g w v ss := by
  obtain ⟨ao, cap, e, hc, hx⟩ := h.form
  exact ⟨⟨ao, cap, e, hc, fun hne => by obtain ⟨b, e1, e2, e3⟩ := hx hne; exact ⟨b, e1, by omega, e3⟩⟩, hs, hf⟩
theorem infoStr : (Tryz.prog.info? 9).map (fun i => (i.zero, i.size, i.bytes)) = some (some (.string ⟨#[]⟩), 1, 16) := by kernel_rfl
set_option maxRecDepth 100000 in
/-- append of a string to a row of one's own. -/
theorem wpList_os {B : Nat} {wx : World} {ops : Array Oper} {rest : List Oper} {o : Oper} {a : Act} {Q : Exit → Act → World → Prop} (hgd : o.guard = none) (s x : Operand)
    (ho : o.op = .call { callee := .builtin .append, args := #[s, x], argTypes := #[74, 74] })
    (v : Value) {ss : List ByteArray} (hs : a.eval s = v) (hown : Os B wx v ss) (hB : B ≤ wx.heap.size) (hsm : ss.length ≤ 1000) (f : ByteArray) (g : Nat) (hx : a.eval x = .slice (some ⟨g, 0, none⟩) 1 1)
    (hc : Blk wx g 9 #[.string f])
    (h : ∀ v' w', Os B w' v' (ss ++ [f]) → wx.grownBy w' v.ownBlock → wpList Tryz.prog ops Q rest (a.put o.dst v') w') : wpList Tryz.prog ops Q (o :: rest) a wx := by
  obtain ⟨i, hi, hz, hsize, hby⟩ := info_parts infoStr
  refine wpList_append_own_at (P := Tryz.prog) wx hgd s x _ ho B _ i _ 1 16 Tryz.underlying74 hi hz hsize hby rfl (by omega) v ss.length (ss.map Value.string) hs hown.owns ⟨g, 0, none⟩ 1 1 [.string f] hx rfl ?_ ?_ (by unfold maxLen; omega) (by omega) hB ?_
  · intro j u hu
    rw [Addr.add_lit]
    refine hc.cell (0 + j) ?_
    rw [Nat.zero_add]
    simpa using hu
  · intro u hu
    simp at hu
    subst hu
    rfl
  · intro v' w' h1 h2 h3 h4
    refine h v' w' ⟨?_⟩ h2
    rw [List.length_append, List.map_append]
    exact h1
theorem Os.lt {B : Nat} {w : World} {v : Value} {ss : List ByteArray} (h : Os B w v ss) : ∀ b, v.ownBlock = some b → B ≤ b := fun b hb => (h.owns.lt b hb).1
/-- One string in memory of its own. -/
theorem Os.one {B : Nat} {w : World} {b : Nat} {s : ByteArray} (h : Blk w b 9 #[.string s]) (hB : B ≤ b) (hb : B ≤ w.heap.size) : Os B w (.slice (some ⟨b, 0, none⟩) 1 1) [s] := by
  refine ⟨⟨?_, .inr ⟨b, 1, #[.string s], rfl, hB, h, Nat.le_refl _, by unfold maxLen; omega, rfl, rfl⟩⟩⟩
  rfl
set_option maxRecDepth 100000 in
set_option maxHeartbeats 1000000 in
theorem Has_q {B : Nat} {w : World} {v : Value} {ss : List ByteArray} (hp : Os B w v ss) (hf : ss.length ≤ 1000) (t : ByteArray) :
    Calls Tryz.prog 73 #[v, .string t] w fun e w' => (∃ b : Bool, e = .returned (.bool b)) ∧ Kp w w' := by
  obtain ⟨ao, cap, rfl, hc, hx⟩ := hp.form
  obtain ⟨m, hm⟩ : ∃ m, m = ss.length := ⟨_, rfl⟩
  rw [← hm] at hc hf ⊢
  have HX := Lib.hid hx; have HM := Lib.hid hm
  have hmi : (m : Int) ≤ 1000 := by omega
  have hci : (m : Int) ≤ (cap : Int) := by omega
  clear hp hx hm hc hf
  go_enter Tryz.func73, Tryz.ntmps73
  go_wp2_with fail
  go_loopw [5] (fun i wr => ∃ k : Nat, i = .int .i64 k ∧ k ≤ m ∧ Kp w wr) (fun i _ => m - (intOf i).toNat)
  case atStart => exact ⟨0, rfl, Nat.zero_le _, Kp.refl _⟩
  case round =>
    obtain ⟨k, rfl, hk, hkp⟩ := hrel
    rename World => wx
    have HKP := Lib.hid hkp
    by_cases hkm : k < m
    · obtain ⟨s, hs⟩ : ∃ s, ss[k]? = some s := ⟨_, List.getElem?_eq_getElem (by have := HM.out; omega)⟩
      obtain ⟨b, rfl, -, hcell⟩ := HX.out (by rintro rfl; simp at hs)
      have c0 := cell_kept (hcell k s hs) hkp
      obtain ⟨q, hq⟩ : ∃ q, q = (s.toList == t.toList) := ⟨_, rfl⟩
      have hq' : (s.toList == t.toList) = q := hq.symm
      clear hkp hcell hs hq
      cases q with
      | true =>
        go_wp2_with fail
        go_ret
        exact ⟨⟨_, rfl⟩, HKP.out⟩
      | false =>
        go_wp2_with fail
        go_roundw
        case rel => exact ⟨k + 1, by go_num, by omega, HKP.out⟩
        case measure => simp [intOf]; omega
    · clear hkp
      go_wp2_with fail
      go_ret
      exact ⟨⟨_, rfl⟩, HKP.out⟩
theorem Expr3_q {w0 w : World} {g n : Nat} {v : Value} {ss : List ByteArray} (ht : Tq w0 w g (n + 240)) (hp : Ps g w v ss) : Calls Tryz.prog 76 #[.pointer (some ⟨g, 0, none⟩), .int .i64 3, v] w (StrR w0 g n 952 w) := Expr_q 3 (by omega) ht hp
theorem Expr2_q {w0 w : World} {g n : Nat} {v : Value} {ss : List ByteArray} (ht : Tq w0 w g (n + 78)) (hp : Ps g w v ss) : Calls Tryz.prog 76 #[.pointer (some ⟨g, 0, none⟩), .int .i64 2, v] w (StrR w0 g n 304 w) := Expr_q 2 (by omega) ht hp
set_option maxRecDepth 100000 in
set_option maxHeartbeats 4000000 in
theorem Decl_q {w0 w : World} {g n : Nat} (ht : Tq w0 w g (n + 250)) : Calls Tryz.prog 57 #[.pointer (some ⟨g, 0, none⟩)] w (StrR w0 g n 1000 w) := by
  obtain ⟨Q, hQ⟩ : ∃ Q, Q = StrR w0 g n 1000 w := ⟨_, rfl⟩
  rw [← hQ]
  have HGW := Lib.hid ht.lt
  have HGE := Lib.hid ht.ge
  have HBS := Lib.hid ht.base.size
  have HC := Lib.hid (Next_q (n := n + 249) ht 8 (by omega) (by omega))
  have FIN : Hid (∀ (s : ByteArray) (W : World) {k : Nat}, s.size ≤ k → k ≤ 1000 → Tq w0 W g n → Gr g w W → Q (.returned (.string s)) W) := Lib.hid (by
    intro s W k h1 h2 h3 h4
    rw [hQ]
    exact ⟨⟨s, rfl, Nat.le_trans h1 h2⟩, h3, h4⟩)
  have HLW : Hid (∀ W, Gr g w W → g < W.heap.size) := Lib.hid (fun W hg => Nat.lt_of_lt_of_le HGW.out hg.size)
  clear ht hQ
  go_enter Tryz.func57, Tryz.ntmps57
  go_wp2_with fail
  refine HC.out.mono ?_
  rintro e wm ⟨⟨r, hr, rfl⟩, hq, hg⟩
  have HQM : Hid (Tq w0 wm g (n + 249)) := Lib.hid hq
  have HGM : Hid (Gr g w wm) := Lib.hid hg
  clear hq hg
  rcases (show r = 0 ∨ r = 1 ∨ r = 2 ∨ r = 3 ∨ r = 4 ∨ r = 5 ∨ r = 6 ∨ r = 7 by omega) with rfl | rfl | rfl | rfl | rfl | rfl | rfl | rfl
  · go_wp2_with fail
    refine (Tests_q g _ (HLW.out _ HGM.out)).mono ?_
    rintro e wA ⟨vA, rfl, hpA, hkA⟩
    obtain ⟨aoA, capA, hvA, -, -⟩ := hpA.ex
    subst hvA
    have HGA := Lib.hid (Gr.trans HGM.out (hkA.gr g))
    have HOC := Lib.hid (One_q (n := n + 248) (HQM.out.keep hkA) hpA)
    clear hpA hkA
    go_wp2_with fail
    refine HOC.out.mono ?_
    rintro e wB ⟨⟨s, rfl, hs, -⟩, hqB, hgB⟩
    have HGB := Lib.hid (Gr.trans HGA.out hgB)
    have HEC := Lib.hid (Expr3_q (n := n) (hqB.less (by omega)) (Ps.nil g wB))
    obtain ⟨y1, z1, a1⟩ := addB ⟨#[116, 101, 115, 116, 32]⟩ s (m := 5) (by decide) hs (by omega)
    obtain ⟨y2, z2, a2⟩ := addB y1 ⟨#[32, 61, 32]⟩ (n := 3) z1 (by decide) (by omega)
    have HZ2 := Lib.hid z2
    clear hs hqB hgB z1 z2
    go_wp2_with fail
    refine HEC.out.mono ?_
    rintro e wE ⟨⟨s2, rfl, hs2⟩, hqE, hgE⟩
    obtain ⟨y3, z3, a3⟩ := addB y2 s2 HZ2.out hs2 (by omega)
    obtain ⟨y4, z4, a4⟩ := addB y3 ⟨#[59, 10]⟩ (n := 2) z3 (by decide) (by omega)
    have HZ4 := Lib.hid z4; have HQE := Lib.hid hqE; have HGE2 := Lib.hid (Gr.trans HGB.out hgE)
    clear hs2 hqE hgE z3 z4
    go_wp2_with fail
    exact FIN.out _ _ HZ4.out (by omega) HQE.out HGE2.out
  · go_wp2_with fail
    refine (Tests_q g _ (HLW.out _ HGM.out)).mono ?_
    rintro e wA ⟨vA, rfl, hpA, hkA⟩
    obtain ⟨aoA, capA, hvA, -, -⟩ := hpA.ex
    subst hvA
    have HGA := Lib.hid (Gr.trans HGM.out (hkA.gr g))
    have HOC := Lib.hid (One_q (n := n + 248) (HQM.out.keep hkA) hpA)
    clear hpA hkA
    go_wp2_with fail
    refine HOC.out.mono ?_
    rintro e wB ⟨⟨s, rfl, hs, -⟩, hqB, hgB⟩
    have HGB := Lib.hid (Gr.trans HGA.out hgB)
    have HEC := Lib.hid (Expr3_q (n := n) (hqB.less (by omega)) (Ps.nil g wB))
    obtain ⟨y1, z1, a1⟩ := addB ⟨#[116, 101, 115, 116, 32]⟩ s (m := 5) (by decide) hs (by omega)
    obtain ⟨y2, z2, a2⟩ := addB y1 ⟨#[32, 61, 32]⟩ (n := 3) z1 (by decide) (by omega)
    have HZ2 := Lib.hid z2
    clear hs hqB hgB z1 z2
    go_wp2_with fail
    refine HEC.out.mono ?_
    rintro e wE ⟨⟨s2, rfl, hs2⟩, hqE, hgE⟩
    obtain ⟨y3, z3, a3⟩ := addB y2 s2 HZ2.out hs2 (by omega)
    obtain ⟨y4, z4, a4⟩ := addB y3 ⟨#[59, 10]⟩ (n := 2) z3 (by decide) (by omega)
    have HZ4 := Lib.hid z4; have HQE := Lib.hid hqE; have HGE2 := Lib.hid (Gr.trans HGB.out hgE)
    clear hs2 hqE hgE z3 z4
    go_wp2_with fail
    exact FIN.out _ _ HZ4.out (by omega) HQE.out HGE2.out
  · go_wp2_with fail
    refine (Tests_q g _ (HLW.out _ HGM.out)).mono ?_
    rintro e wA ⟨vA, rfl, hpA, hkA⟩
    obtain ⟨aoA, capA, hvA, -, -⟩ := hpA.ex
    subst hvA
    have HGA := Lib.hid (Gr.trans HGM.out (hkA.gr g))
    have HOC := Lib.hid (One_q (n := n + 248) (HQM.out.keep hkA) hpA)
    clear hpA hkA
    go_wp2_with fail
    refine HOC.out.mono ?_
    rintro e wB ⟨⟨s, rfl, hs, -⟩, hqB, hgB⟩
    have HGB := Lib.hid (Gr.trans HGA.out hgB)
    have HEC := Lib.hid (Expr3_q (n := n) (hqB.less (by omega)) (Ps.nil g wB))
    obtain ⟨y1, z1, a1⟩ := addB ⟨#[116, 101, 115, 116, 32]⟩ s (m := 5) (by decide) hs (by omega)
    obtain ⟨y2, z2, a2⟩ := addB y1 ⟨#[32, 61, 32]⟩ (n := 3) z1 (by decide) (by omega)
    have HZ2 := Lib.hid z2
    clear hs hqB hgB z1 z2
    go_wp2_with fail
    refine HEC.out.mono ?_
    rintro e wE ⟨⟨s2, rfl, hs2⟩, hqE, hgE⟩
    obtain ⟨y3, z3, a3⟩ := addB y2 s2 HZ2.out hs2 (by omega)
    obtain ⟨y4, z4, a4⟩ := addB y3 ⟨#[59, 10]⟩ (n := 2) z3 (by decide) (by omega)
    have HZ4 := Lib.hid z4; have HQE := Lib.hid hqE; have HGE2 := Lib.hid (Gr.trans HGB.out hgE)
    clear hs2 hqE hgE z3 z4
    go_wp2_with fail
    exact FIN.out _ _ HZ4.out (by omega) HQE.out HGE2.out
  · go_wp2_with fail
    refine (Paths_q g _ (HLW.out _ HGM.out)).mono ?_
    rintro e wA ⟨vA, rfl, hpA, hkA⟩
    obtain ⟨aoA, capA, hvA, -, -⟩ := hpA.ex
    subst hvA
    have HGA := Lib.hid (Gr.trans HGM.out (hkA.gr g))
    have HOC := Lib.hid (One_q (n := n + 248) (HQM.out.keep hkA) hpA)
    clear hpA hkA
    go_wp2_with fail
    refine HOC.out.mono ?_
    rintro e wB ⟨⟨s, rfl, hs, -⟩, hqB, hgB⟩
    have HGB := Lib.hid (Gr.trans HGA.out hgB)
    have HEC := Lib.hid (Expr2_q (n := n) (hqB.less (by omega)) (Ps.nil g wB))
    obtain ⟨y1, z1, a1⟩ := addB ⟨#[103, 101, 110, 32, 34]⟩ s (m := 5) (by decide) hs (by omega)
    obtain ⟨y2, z2, a2⟩ := addB y1 ⟨#[34, 32, 61, 32]⟩ (n := 4) z1 (by decide) (by omega)
    have HZ2 := Lib.hid z2
    clear hs hqB hgB z1 z2
    go_wp2_with fail
    refine HEC.out.mono ?_
    rintro e wE ⟨⟨s2, rfl, hs2⟩, hqE, hgE⟩
    obtain ⟨y3, z3, a3⟩ := addB y2 s2 HZ2.out hs2 (by omega)
    obtain ⟨y4, z4, a4⟩ := addB y3 ⟨#[59, 10]⟩ (n := 2) z3 (by decide) (by omega)
    have HZ4 := Lib.hid z4; have HQE := Lib.hid hqE; have HGE2 := Lib.hid (Gr.trans HGB.out hgE)
    clear hs2 hqE hgE z3 z4
    go_wp2_with fail
    exact FIN.out _ _ HZ4.out (by omega) HQE.out HGE2.out
  · skip
    go_wp2_with fail
    have HBA : Hid (Blk (wm.alloc (.cells #[.string ⟨#[97]⟩] 9)) wm.heap.size 9 #[.string ⟨#[97]⟩]) := Lib.hid (Blk.new _ _ _)
    have HKA := Lib.hid (kp_alloc wm (.cells #[.string ⟨#[97]⟩] 9))
    obtain ⟨wa, hwa⟩ : ∃ W, W = wm.alloc (.cells #[.string ⟨#[97]⟩] 9) := ⟨_, rfl⟩
    rw [← hwa] at HBA HKA ⊢
    clear hwa
    obtain ⟨ab, hab⟩ : ∃ b, b = wm.heap.size := ⟨_, rfl⟩
    rw [← hab] at HBA ⊢
    have HAB : Hid (w.heap.size ≤ ab) := Lib.hid (by have := HGM.out.size; omega)
    have HGA0 : Hid (Gr g w wa) := Lib.hid (Gr.trans HGM.out (HKA.out.gr g))
    have HCC := Lib.hid (Chance_q (n := n + 248) (HQM.out.keep HKA.out) 1 5 (by omega) (by omega))
    clear hab
    refine HCC.out.mono ?_
    rintro e wc ⟨⟨b5, rfl⟩, hq, hg⟩
    have HQC : Hid (Tq w0 wc g (n + 248)) := Lib.hid hq
    have HGC : Hid (Gr g w wc) := Lib.hid (Gr.trans HGA0.out hg)
    have HOA : Hid (Os w.heap.size wc (.slice (some ⟨ab, 0, none⟩) 1 1) [⟨#[97]⟩]) := Lib.hid ((Os.one HBA.out HAB.out HGA0.out.size).gr hg HGW.out)
    clear hq hg
    cases b5 with
    | true =>
      have HOA2 := Lib.hid (HOA.out.keep (kp_alloc wc (.cells #[.string ⟨#[98]⟩] 9)))
      have HB2 : Hid (Blk (wc.alloc (.cells #[.string ⟨#[98]⟩] 9)) wc.heap.size 9 #[.string ⟨#[98]⟩]) := Lib.hid (Blk.new _ _ _)
      have HS2 : Hid (w.heap.size ≤ (wc.alloc (.cells #[.string ⟨#[98]⟩] 9)).heap.size) := Lib.hid (Nat.le_trans HGC.out.size (kp_alloc wc _).size)
      go_wp2_with (at_builtin; refine wpList_os rfl (.tmp 34) (.tmp 35) rfl _ rfl HOA2.out HS2.out (by simp) ⟨#[98]⟩ wc.heap.size rfl HB2.out ?_)
      intro v5 wP hos hgr
      have HQP : Hid (Tq w0 wP g (n + 248)) := Lib.hid ((HQC.out.keep (kp_alloc wc _)).by hgr (fun r hr => by
        have h1 : ab = r := by simpa [Value.ownBlock] using hr
        have h2 := HAB.out; have h3 := HGW.out; have h4 := HBS.out
        exact ⟨by omega, by omega⟩))
      have HGP : Hid (Gr g w wP) := Lib.hid (Gr.by (Gr.trans HGC.out ((kp_alloc wc _).gr g)) hgr (fun r hr => by
        have h1 : ab = r := by simpa [Value.ownBlock] using hr
        have h2 := HAB.out
        omega))
      have hps := hos.ps (g := g) HGW.out (by decide) (by decide)
      obtain ⟨pa, pc, hv5, -, -⟩ := hps.ex
      subst hv5
      have HPP := Lib.hid hps
      clear hos hgr hps
      go_wp2_with fail
      refine (Functions_q g _ (HLW.out _ HGP.out)).mono ?_
      rintro e wA ⟨vA, rfl, hpA, hkA⟩
      obtain ⟨aoA, capA, hvA, -, -⟩ := hpA.ex
      subst hvA
      have HGA := Lib.hid (Gr.trans HGP.out (hkA.gr g))
      have HOC := Lib.hid (One_q (n := n + 246) ((HQP.out.keep hkA).less (by omega)) hpA)
      have HPA := Lib.hid (HPP.out.gr (hkA.gr g))
      clear hpA hkA
      go_wp2_with fail
      refine HOC.out.mono ?_
      rintro e wB ⟨⟨s, rfl, hs, -⟩, hqB, hgB⟩
      have HGB := Lib.hid (Gr.trans HGA.out hgB)
      have HEC := Lib.hid (Expr3_q (n := n) (hqB.less (by omega)) (HPA.out.gr hgB))
      obtain ⟨y1, z1, a1⟩ := addB ⟨#[102, 117, 110, 99, 32]⟩ s (m := 5) (by decide) hs (by omega)
      obtain ⟨y2, z2, a2⟩ := addB y1 ⟨#[40, 97]⟩ (n := 2) z1 (by decide) (by omega)
      obtain ⟨y3, z3, a3⟩ := addB y2 ⟨#[44, 32, 98]⟩ (n := 3) z2 (by decide) (by omega)
      obtain ⟨y4, z4, a4⟩ := addB y3 ⟨#[41, 32, 61, 32]⟩ (n := 4) z3 (by decide) (by omega)
      have HZ4 := Lib.hid z4
      clear hs hqB hgB z1 z2 z3 z4
      go_wp2_with fail
      refine HEC.out.mono ?_
      rintro e wE ⟨⟨s2, rfl, hs2⟩, hqE, hgE⟩
      obtain ⟨y5, z5, a5⟩ := addB y4 s2 HZ4.out hs2 (by omega)
      obtain ⟨y6, z6, a6⟩ := addB y5 ⟨#[59, 10]⟩ (n := 2) z5 (by decide) (by omega)
      have HZ6 := Lib.hid z6; have HQE := Lib.hid hqE; have HGE2 := Lib.hid (Gr.trans HGB.out hgE)
      clear hs2 hqE hgE z5 z6
      go_wp2_with fail
      exact FIN.out _ _ HZ6.out (by omega) HQE.out HGE2.out

    | false =>
      have HPP : Hid (Ps g wc (.slice (some ⟨ab, 0, none⟩) 1 1) [⟨#[97]⟩]) := Lib.hid (HOA.out.ps HGW.out (by decide) (by decide))
      have HQP := HQC
      have HGP := HGC
      go_wp2_with fail
      refine (Functions_q g _ (HLW.out _ HGP.out)).mono ?_
      rintro e wA ⟨vA, rfl, hpA, hkA⟩
      obtain ⟨aoA, capA, hvA, -, -⟩ := hpA.ex
      subst hvA
      have HGA := Lib.hid (Gr.trans HGP.out (hkA.gr g))
      have HOC := Lib.hid (One_q (n := n + 246) ((HQP.out.keep hkA).less (by omega)) hpA)
      have HPA := Lib.hid (HPP.out.gr (hkA.gr g))
      clear hpA hkA
      go_wp2_with fail
      refine HOC.out.mono ?_
      rintro e wB ⟨⟨s, rfl, hs, -⟩, hqB, hgB⟩
      have HGB := Lib.hid (Gr.trans HGA.out hgB)
      have HEC := Lib.hid (Expr3_q (n := n) (hqB.less (by omega)) (HPA.out.gr hgB))
      obtain ⟨y1, z1, a1⟩ := addB ⟨#[102, 117, 110, 99, 32]⟩ s (m := 5) (by decide) hs (by omega)
      obtain ⟨y2, z2, a2⟩ := addB y1 ⟨#[40, 97]⟩ (n := 2) z1 (by decide) (by omega)
      obtain ⟨y4, z4, a4⟩ := addB y2 ⟨#[41, 32, 61, 32]⟩ (n := 4) z2 (by decide) (by omega)
      have HZ4 := Lib.hid z4
      clear hs hqB hgB z1 z2 z4
      go_wp2_with fail
      refine HEC.out.mono ?_
      rintro e wE ⟨⟨s2, rfl, hs2⟩, hqE, hgE⟩
      obtain ⟨y5, z5, a5⟩ := addB y4 s2 HZ4.out hs2 (by omega)
      obtain ⟨y6, z6, a6⟩ := addB y5 ⟨#[59, 10]⟩ (n := 2) z5 (by decide) (by omega)
      have HZ6 := Lib.hid z6; have HQE := Lib.hid hqE; have HGE2 := Lib.hid (Gr.trans HGB.out hgE)
      clear hs2 hqE hgE z5 z6
      go_wp2_with fail
      exact FIN.out _ _ HZ6.out (by omega) HQE.out HGE2.out

  · skip
    go_wp2_with fail
    have HBA : Hid (Blk (wm.alloc (.cells #[.string ⟨#[97]⟩] 9)) wm.heap.size 9 #[.string ⟨#[97]⟩]) := Lib.hid (Blk.new _ _ _)
    have HKA := Lib.hid (kp_alloc wm (.cells #[.string ⟨#[97]⟩] 9))
    obtain ⟨wa, hwa⟩ : ∃ W, W = wm.alloc (.cells #[.string ⟨#[97]⟩] 9) := ⟨_, rfl⟩
    rw [← hwa] at HBA HKA ⊢
    clear hwa
    obtain ⟨ab, hab⟩ : ∃ b, b = wm.heap.size := ⟨_, rfl⟩
    rw [← hab] at HBA ⊢
    have HAB : Hid (w.heap.size ≤ ab) := Lib.hid (by have := HGM.out.size; omega)
    have HGA0 : Hid (Gr g w wa) := Lib.hid (Gr.trans HGM.out (HKA.out.gr g))
    have HCC := Lib.hid (Chance_q (n := n + 248) (HQM.out.keep HKA.out) 1 5 (by omega) (by omega))
    clear hab
    refine HCC.out.mono ?_
    rintro e wc ⟨⟨b5, rfl⟩, hq, hg⟩
    have HQC : Hid (Tq w0 wc g (n + 248)) := Lib.hid hq
    have HGC : Hid (Gr g w wc) := Lib.hid (Gr.trans HGA0.out hg)
    have HOA : Hid (Os w.heap.size wc (.slice (some ⟨ab, 0, none⟩) 1 1) [⟨#[97]⟩]) := Lib.hid ((Os.one HBA.out HAB.out HGA0.out.size).gr hg HGW.out)
    clear hq hg
    cases b5 with
    | true =>
      have HOA2 := Lib.hid (HOA.out.keep (kp_alloc wc (.cells #[.string ⟨#[98]⟩] 9)))
      have HB2 : Hid (Blk (wc.alloc (.cells #[.string ⟨#[98]⟩] 9)) wc.heap.size 9 #[.string ⟨#[98]⟩]) := Lib.hid (Blk.new _ _ _)
      have HS2 : Hid (w.heap.size ≤ (wc.alloc (.cells #[.string ⟨#[98]⟩] 9)).heap.size) := Lib.hid (Nat.le_trans HGC.out.size (kp_alloc wc _).size)
      go_wp2_with (at_builtin; refine wpList_os rfl (.tmp 34) (.tmp 35) rfl _ rfl HOA2.out HS2.out (by simp) ⟨#[98]⟩ wc.heap.size rfl HB2.out ?_)
      intro v5 wP hos hgr
      have HQP : Hid (Tq w0 wP g (n + 248)) := Lib.hid ((HQC.out.keep (kp_alloc wc _)).by hgr (fun r hr => by
        have h1 : ab = r := by simpa [Value.ownBlock] using hr
        have h2 := HAB.out; have h3 := HGW.out; have h4 := HBS.out
        exact ⟨by omega, by omega⟩))
      have HGP : Hid (Gr g w wP) := Lib.hid (Gr.by (Gr.trans HGC.out ((kp_alloc wc _).gr g)) hgr (fun r hr => by
        have h1 : ab = r := by simpa [Value.ownBlock] using hr
        have h2 := HAB.out
        omega))
      have hps := hos.ps (g := g) HGW.out (by decide) (by decide)
      obtain ⟨pa, pc, hv5, -, -⟩ := hps.ex
      subst hv5
      have HPP := Lib.hid hps
      clear hos hgr hps
      go_wp2_with fail
      refine (Functions_q g _ (HLW.out _ HGP.out)).mono ?_
      rintro e wA ⟨vA, rfl, hpA, hkA⟩
      obtain ⟨aoA, capA, hvA, -, -⟩ := hpA.ex
      subst hvA
      have HGA := Lib.hid (Gr.trans HGP.out (hkA.gr g))
      have HOC := Lib.hid (One_q (n := n + 246) ((HQP.out.keep hkA).less (by omega)) hpA)
      have HPA := Lib.hid (HPP.out.gr (hkA.gr g))
      clear hpA hkA
      go_wp2_with fail
      refine HOC.out.mono ?_
      rintro e wB ⟨⟨s, rfl, hs, -⟩, hqB, hgB⟩
      have HGB := Lib.hid (Gr.trans HGA.out hgB)
      have HEC := Lib.hid (Expr3_q (n := n) (hqB.less (by omega)) (HPA.out.gr hgB))
      obtain ⟨y1, z1, a1⟩ := addB ⟨#[102, 117, 110, 99, 32]⟩ s (m := 5) (by decide) hs (by omega)
      obtain ⟨y2, z2, a2⟩ := addB y1 ⟨#[40, 97]⟩ (n := 2) z1 (by decide) (by omega)
      obtain ⟨y3, z3, a3⟩ := addB y2 ⟨#[44, 32, 98]⟩ (n := 3) z2 (by decide) (by omega)
      obtain ⟨y4, z4, a4⟩ := addB y3 ⟨#[41, 32, 61, 32]⟩ (n := 4) z3 (by decide) (by omega)
      have HZ4 := Lib.hid z4
      clear hs hqB hgB z1 z2 z3 z4
      go_wp2_with fail
      refine HEC.out.mono ?_
      rintro e wE ⟨⟨s2, rfl, hs2⟩, hqE, hgE⟩
      obtain ⟨y5, z5, a5⟩ := addB y4 s2 HZ4.out hs2 (by omega)
      obtain ⟨y6, z6, a6⟩ := addB y5 ⟨#[59, 10]⟩ (n := 2) z5 (by decide) (by omega)
      have HZ6 := Lib.hid z6; have HQE := Lib.hid hqE; have HGE2 := Lib.hid (Gr.trans HGB.out hgE)
      clear hs2 hqE hgE z5 z6
      go_wp2_with fail
      exact FIN.out _ _ HZ6.out (by omega) HQE.out HGE2.out

    | false =>
      have HPP : Hid (Ps g wc (.slice (some ⟨ab, 0, none⟩) 1 1) [⟨#[97]⟩]) := Lib.hid (HOA.out.ps HGW.out (by decide) (by decide))
      have HQP := HQC
      have HGP := HGC
      go_wp2_with fail
      refine (Functions_q g _ (HLW.out _ HGP.out)).mono ?_
      rintro e wA ⟨vA, rfl, hpA, hkA⟩
      obtain ⟨aoA, capA, hvA, -, -⟩ := hpA.ex
      subst hvA
      have HGA := Lib.hid (Gr.trans HGP.out (hkA.gr g))
      have HOC := Lib.hid (One_q (n := n + 246) ((HQP.out.keep hkA).less (by omega)) hpA)
      have HPA := Lib.hid (HPP.out.gr (hkA.gr g))
      clear hpA hkA
      go_wp2_with fail
      refine HOC.out.mono ?_
      rintro e wB ⟨⟨s, rfl, hs, -⟩, hqB, hgB⟩
      have HGB := Lib.hid (Gr.trans HGA.out hgB)
      have HEC := Lib.hid (Expr3_q (n := n) (hqB.less (by omega)) (HPA.out.gr hgB))
      obtain ⟨y1, z1, a1⟩ := addB ⟨#[102, 117, 110, 99, 32]⟩ s (m := 5) (by decide) hs (by omega)
      obtain ⟨y2, z2, a2⟩ := addB y1 ⟨#[40, 97]⟩ (n := 2) z1 (by decide) (by omega)
      obtain ⟨y4, z4, a4⟩ := addB y2 ⟨#[41, 32, 61, 32]⟩ (n := 4) z2 (by decide) (by omega)
      have HZ4 := Lib.hid z4
      clear hs hqB hgB z1 z2 z4
      go_wp2_with fail
      refine HEC.out.mono ?_
      rintro e wE ⟨⟨s2, rfl, hs2⟩, hqE, hgE⟩
      obtain ⟨y5, z5, a5⟩ := addB y4 s2 HZ4.out hs2 (by omega)
      obtain ⟨y6, z6, a6⟩ := addB y5 ⟨#[59, 10]⟩ (n := 2) z5 (by decide) (by omega)
      have HZ6 := Lib.hid z6; have HQE := Lib.hid hqE; have HGE2 := Lib.hid (Gr.trans HGB.out hgE)
      clear hs2 hqE hgE z5 z6
      go_wp2_with fail
      exact FIN.out _ _ HZ6.out (by omega) HQE.out HGE2.out

  · skip
    go_wp2_with fail
    have HBA : Hid (Blk (wm.alloc (.cells #[.string ⟨#[97]⟩] 9)) wm.heap.size 9 #[.string ⟨#[97]⟩]) := Lib.hid (Blk.new _ _ _)
    have HKA := Lib.hid (kp_alloc wm (.cells #[.string ⟨#[97]⟩] 9))
    obtain ⟨wa, hwa⟩ : ∃ W, W = wm.alloc (.cells #[.string ⟨#[97]⟩] 9) := ⟨_, rfl⟩
    rw [← hwa] at HBA HKA ⊢
    clear hwa
    obtain ⟨ab, hab⟩ : ∃ b, b = wm.heap.size := ⟨_, rfl⟩
    rw [← hab] at HBA ⊢
    have HAB : Hid (w.heap.size ≤ ab) := Lib.hid (by have := HGM.out.size; omega)
    have HGA0 : Hid (Gr g w wa) := Lib.hid (Gr.trans HGM.out (HKA.out.gr g))
    have HCC := Lib.hid (Chance_q (n := n + 248) (HQM.out.keep HKA.out) 1 5 (by omega) (by omega))
    clear hab
    refine HCC.out.mono ?_
    rintro e wc ⟨⟨b5, rfl⟩, hq, hg⟩
    have HQC : Hid (Tq w0 wc g (n + 248)) := Lib.hid hq
    have HGC : Hid (Gr g w wc) := Lib.hid (Gr.trans HGA0.out hg)
    have HOA : Hid (Os w.heap.size wc (.slice (some ⟨ab, 0, none⟩) 1 1) [⟨#[97]⟩]) := Lib.hid ((Os.one HBA.out HAB.out HGA0.out.size).gr hg HGW.out)
    clear hq hg
    cases b5 with
    | true =>
      have HOA2 := Lib.hid (HOA.out.keep (kp_alloc wc (.cells #[.string ⟨#[98]⟩] 9)))
      have HB2 : Hid (Blk (wc.alloc (.cells #[.string ⟨#[98]⟩] 9)) wc.heap.size 9 #[.string ⟨#[98]⟩]) := Lib.hid (Blk.new _ _ _)
      have HS2 : Hid (w.heap.size ≤ (wc.alloc (.cells #[.string ⟨#[98]⟩] 9)).heap.size) := Lib.hid (Nat.le_trans HGC.out.size (kp_alloc wc _).size)
      go_wp2_with (at_builtin; refine wpList_os rfl (.tmp 34) (.tmp 35) rfl _ rfl HOA2.out HS2.out (by simp) ⟨#[98]⟩ wc.heap.size rfl HB2.out ?_)
      intro v5 wP hos hgr
      have HQP : Hid (Tq w0 wP g (n + 248)) := Lib.hid ((HQC.out.keep (kp_alloc wc _)).by hgr (fun r hr => by
        have h1 : ab = r := by simpa [Value.ownBlock] using hr
        have h2 := HAB.out; have h3 := HGW.out; have h4 := HBS.out
        exact ⟨by omega, by omega⟩))
      have HGP : Hid (Gr g w wP) := Lib.hid (Gr.by (Gr.trans HGC.out ((kp_alloc wc _).gr g)) hgr (fun r hr => by
        have h1 : ab = r := by simpa [Value.ownBlock] using hr
        have h2 := HAB.out
        omega))
      have hps := hos.ps (g := g) HGW.out (by decide) (by decide)
      obtain ⟨pa, pc, hv5, -, -⟩ := hps.ex
      subst hv5
      have HPP := Lib.hid hps
      clear hos hgr hps
      go_wp2_with fail
      refine (Functions_q g _ (HLW.out _ HGP.out)).mono ?_
      rintro e wA ⟨vA, rfl, hpA, hkA⟩
      obtain ⟨aoA, capA, hvA, -, -⟩ := hpA.ex
      subst hvA
      have HGA := Lib.hid (Gr.trans HGP.out (hkA.gr g))
      have HOC := Lib.hid (One_q (n := n + 246) ((HQP.out.keep hkA).less (by omega)) hpA)
      have HPA := Lib.hid (HPP.out.gr (hkA.gr g))
      clear hpA hkA
      go_wp2_with fail
      refine HOC.out.mono ?_
      rintro e wB ⟨⟨s, rfl, hs, -⟩, hqB, hgB⟩
      have HGB := Lib.hid (Gr.trans HGA.out hgB)
      have HEC := Lib.hid (Expr3_q (n := n) (hqB.less (by omega)) (HPA.out.gr hgB))
      obtain ⟨y1, z1, a1⟩ := addB ⟨#[102, 117, 110, 99, 32]⟩ s (m := 5) (by decide) hs (by omega)
      obtain ⟨y2, z2, a2⟩ := addB y1 ⟨#[40, 97]⟩ (n := 2) z1 (by decide) (by omega)
      obtain ⟨y3, z3, a3⟩ := addB y2 ⟨#[44, 32, 98]⟩ (n := 3) z2 (by decide) (by omega)
      obtain ⟨y4, z4, a4⟩ := addB y3 ⟨#[41, 32, 61, 32]⟩ (n := 4) z3 (by decide) (by omega)
      have HZ4 := Lib.hid z4
      clear hs hqB hgB z1 z2 z3 z4
      go_wp2_with fail
      refine HEC.out.mono ?_
      rintro e wE ⟨⟨s2, rfl, hs2⟩, hqE, hgE⟩
      obtain ⟨y5, z5, a5⟩ := addB y4 s2 HZ4.out hs2 (by omega)
      obtain ⟨y6, z6, a6⟩ := addB y5 ⟨#[59, 10]⟩ (n := 2) z5 (by decide) (by omega)
      have HZ6 := Lib.hid z6; have HQE := Lib.hid hqE; have HGE2 := Lib.hid (Gr.trans HGB.out hgE)
      clear hs2 hqE hgE z5 z6
      go_wp2_with fail
      exact FIN.out _ _ HZ6.out (by omega) HQE.out HGE2.out

    | false =>
      have HPP : Hid (Ps g wc (.slice (some ⟨ab, 0, none⟩) 1 1) [⟨#[97]⟩]) := Lib.hid (HOA.out.ps HGW.out (by decide) (by decide))
      have HQP := HQC
      have HGP := HGC
      go_wp2_with fail
      refine (Functions_q g _ (HLW.out _ HGP.out)).mono ?_
      rintro e wA ⟨vA, rfl, hpA, hkA⟩
      obtain ⟨aoA, capA, hvA, -, -⟩ := hpA.ex
      subst hvA
      have HGA := Lib.hid (Gr.trans HGP.out (hkA.gr g))
      have HOC := Lib.hid (One_q (n := n + 246) ((HQP.out.keep hkA).less (by omega)) hpA)
      have HPA := Lib.hid (HPP.out.gr (hkA.gr g))
      clear hpA hkA
      go_wp2_with fail
      refine HOC.out.mono ?_
      rintro e wB ⟨⟨s, rfl, hs, -⟩, hqB, hgB⟩
      have HGB := Lib.hid (Gr.trans HGA.out hgB)
      have HEC := Lib.hid (Expr3_q (n := n) (hqB.less (by omega)) (HPA.out.gr hgB))
      obtain ⟨y1, z1, a1⟩ := addB ⟨#[102, 117, 110, 99, 32]⟩ s (m := 5) (by decide) hs (by omega)
      obtain ⟨y2, z2, a2⟩ := addB y1 ⟨#[40, 97]⟩ (n := 2) z1 (by decide) (by omega)
      obtain ⟨y4, z4, a4⟩ := addB y2 ⟨#[41, 32, 61, 32]⟩ (n := 4) z2 (by decide) (by omega)
      have HZ4 := Lib.hid z4
      clear hs hqB hgB z1 z2 z4
      go_wp2_with fail
      refine HEC.out.mono ?_
      rintro e wE ⟨⟨s2, rfl, hs2⟩, hqE, hgE⟩
      obtain ⟨y5, z5, a5⟩ := addB y4 s2 HZ4.out hs2 (by omega)
      obtain ⟨y6, z6, a6⟩ := addB y5 ⟨#[59, 10]⟩ (n := 2) z5 (by decide) (by omega)
      have HZ6 := Lib.hid z6; have HQE := Lib.hid hqE; have HGE2 := Lib.hid (Gr.trans HGB.out hgE)
      clear hs2 hqE hgE z5 z6
      go_wp2_with fail
      exact FIN.out _ _ HZ6.out (by omega) HQE.out HGE2.out

  · skip
    go_wp2_with fail
    have HBA : Hid (Blk (wm.alloc (.cells #[.string ⟨#[97]⟩] 9)) wm.heap.size 9 #[.string ⟨#[97]⟩]) := Lib.hid (Blk.new _ _ _)
    have HKA := Lib.hid (kp_alloc wm (.cells #[.string ⟨#[97]⟩] 9))
    obtain ⟨wa, hwa⟩ : ∃ W, W = wm.alloc (.cells #[.string ⟨#[97]⟩] 9) := ⟨_, rfl⟩
    rw [← hwa] at HBA HKA ⊢
    clear hwa
    obtain ⟨ab, hab⟩ : ∃ b, b = wm.heap.size := ⟨_, rfl⟩
    rw [← hab] at HBA ⊢
    have HAB : Hid (w.heap.size ≤ ab) := Lib.hid (by have := HGM.out.size; omega)
    have HGA0 : Hid (Gr g w wa) := Lib.hid (Gr.trans HGM.out (HKA.out.gr g))
    have HCC := Lib.hid (Chance_q (n := n + 248) (HQM.out.keep HKA.out) 1 5 (by omega) (by omega))
    clear hab
    refine HCC.out.mono ?_
    rintro e wc ⟨⟨b5, rfl⟩, hq, hg⟩
    have HQC : Hid (Tq w0 wc g (n + 248)) := Lib.hid hq
    have HGC : Hid (Gr g w wc) := Lib.hid (Gr.trans HGA0.out hg)
    have HOA : Hid (Os w.heap.size wc (.slice (some ⟨ab, 0, none⟩) 1 1) [⟨#[97]⟩]) := Lib.hid ((Os.one HBA.out HAB.out HGA0.out.size).gr hg HGW.out)
    clear hq hg
    cases b5 with
    | true =>
      have HOA2 := Lib.hid (HOA.out.keep (kp_alloc wc (.cells #[.string ⟨#[98]⟩] 9)))
      have HB2 : Hid (Blk (wc.alloc (.cells #[.string ⟨#[98]⟩] 9)) wc.heap.size 9 #[.string ⟨#[98]⟩]) := Lib.hid (Blk.new _ _ _)
      have HS2 : Hid (w.heap.size ≤ (wc.alloc (.cells #[.string ⟨#[98]⟩] 9)).heap.size) := Lib.hid (Nat.le_trans HGC.out.size (kp_alloc wc _).size)
      go_wp2_with (at_builtin; refine wpList_os rfl (.tmp 34) (.tmp 35) rfl _ rfl HOA2.out HS2.out (by simp) ⟨#[98]⟩ wc.heap.size rfl HB2.out ?_)
      intro v5 wP hos hgr
      have HQP : Hid (Tq w0 wP g (n + 248)) := Lib.hid ((HQC.out.keep (kp_alloc wc _)).by hgr (fun r hr => by
        have h1 : ab = r := by simpa [Value.ownBlock] using hr
        have h2 := HAB.out; have h3 := HGW.out; have h4 := HBS.out
        exact ⟨by omega, by omega⟩))
      have HGP : Hid (Gr g w wP) := Lib.hid (Gr.by (Gr.trans HGC.out ((kp_alloc wc _).gr g)) hgr (fun r hr => by
        have h1 : ab = r := by simpa [Value.ownBlock] using hr
        have h2 := HAB.out
        omega))
      have hps := hos.ps (g := g) HGW.out (by decide) (by decide)
      obtain ⟨pa, pc, hv5, -, -⟩ := hps.ex
      subst hv5
      have HPP := Lib.hid hps
      clear hos hgr hps
      go_wp2_with fail
      refine (Functions_q g _ (HLW.out _ HGP.out)).mono ?_
      rintro e wA ⟨vA, rfl, hpA, hkA⟩
      obtain ⟨aoA, capA, hvA, -, -⟩ := hpA.ex
      subst hvA
      have HGA := Lib.hid (Gr.trans HGP.out (hkA.gr g))
      have HOC := Lib.hid (One_q (n := n + 246) ((HQP.out.keep hkA).less (by omega)) hpA)
      have HPA := Lib.hid (HPP.out.gr (hkA.gr g))
      clear hpA hkA
      go_wp2_with fail
      refine HOC.out.mono ?_
      rintro e wB ⟨⟨s, rfl, hs, -⟩, hqB, hgB⟩
      have HGB := Lib.hid (Gr.trans HGA.out hgB)
      have HEC := Lib.hid (Expr3_q (n := n) (hqB.less (by omega)) (HPA.out.gr hgB))
      obtain ⟨y1, z1, a1⟩ := addB ⟨#[102, 117, 110, 99, 32]⟩ s (m := 5) (by decide) hs (by omega)
      obtain ⟨y2, z2, a2⟩ := addB y1 ⟨#[40, 97]⟩ (n := 2) z1 (by decide) (by omega)
      obtain ⟨y3, z3, a3⟩ := addB y2 ⟨#[44, 32, 98]⟩ (n := 3) z2 (by decide) (by omega)
      obtain ⟨y4, z4, a4⟩ := addB y3 ⟨#[41, 32, 61, 32]⟩ (n := 4) z3 (by decide) (by omega)
      have HZ4 := Lib.hid z4
      clear hs hqB hgB z1 z2 z3 z4
      go_wp2_with fail
      refine HEC.out.mono ?_
      rintro e wE ⟨⟨s2, rfl, hs2⟩, hqE, hgE⟩
      obtain ⟨y5, z5, a5⟩ := addB y4 s2 HZ4.out hs2 (by omega)
      obtain ⟨y6, z6, a6⟩ := addB y5 ⟨#[59, 10]⟩ (n := 2) z5 (by decide) (by omega)
      have HZ6 := Lib.hid z6; have HQE := Lib.hid hqE; have HGE2 := Lib.hid (Gr.trans HGB.out hgE)
      clear hs2 hqE hgE z5 z6
      go_wp2_with fail
      exact FIN.out _ _ HZ6.out (by omega) HQE.out HGE2.out

    | false =>
      have HPP : Hid (Ps g wc (.slice (some ⟨ab, 0, none⟩) 1 1) [⟨#[97]⟩]) := Lib.hid (HOA.out.ps HGW.out (by decide) (by decide))
      have HQP := HQC
      have HGP := HGC
      go_wp2_with fail
      refine (Functions_q g _ (HLW.out _ HGP.out)).mono ?_
      rintro e wA ⟨vA, rfl, hpA, hkA⟩
      obtain ⟨aoA, capA, hvA, -, -⟩ := hpA.ex
      subst hvA
      have HGA := Lib.hid (Gr.trans HGP.out (hkA.gr g))
      have HOC := Lib.hid (One_q (n := n + 246) ((HQP.out.keep hkA).less (by omega)) hpA)
      have HPA := Lib.hid (HPP.out.gr (hkA.gr g))
      clear hpA hkA
      go_wp2_with fail
      refine HOC.out.mono ?_
      rintro e wB ⟨⟨s, rfl, hs, -⟩, hqB, hgB⟩
      have HGB := Lib.hid (Gr.trans HGA.out hgB)
      have HEC := Lib.hid (Expr3_q (n := n) (hqB.less (by omega)) (HPA.out.gr hgB))
      obtain ⟨y1, z1, a1⟩ := addB ⟨#[102, 117, 110, 99, 32]⟩ s (m := 5) (by decide) hs (by omega)
      obtain ⟨y2, z2, a2⟩ := addB y1 ⟨#[40, 97]⟩ (n := 2) z1 (by decide) (by omega)
      obtain ⟨y4, z4, a4⟩ := addB y2 ⟨#[41, 32, 61, 32]⟩ (n := 4) z2 (by decide) (by omega)
      have HZ4 := Lib.hid z4
      clear hs hqB hgB z1 z2 z4
      go_wp2_with fail
      refine HEC.out.mono ?_
      rintro e wE ⟨⟨s2, rfl, hs2⟩, hqE, hgE⟩
      obtain ⟨y5, z5, a5⟩ := addB y4 s2 HZ4.out hs2 (by omega)
      obtain ⟨y6, z6, a6⟩ := addB y5 ⟨#[59, 10]⟩ (n := 2) z5 (by decide) (by omega)
      have HZ6 := Lib.hid z6; have HQE := Lib.hid hqE; have HGE2 := Lib.hid (Gr.trans HGB.out hgE)
      clear hs2 hqE hgE z5 z6
      go_wp2_with fail
      exact FIN.out _ _ HZ6.out (by omega) HQE.out HGE2.out

end By
end Go.Proofs.YtfobogcccbddbaaGreatDoor
