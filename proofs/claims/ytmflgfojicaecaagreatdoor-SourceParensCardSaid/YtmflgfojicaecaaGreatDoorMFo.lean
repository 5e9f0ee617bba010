/- Format: the text of a source, or the error. Conditions: names have at most a million bytes, rows fewer than a million items; the package variables that the code reads lie in memory; the fuel of the plain grammar suffices. -/
import Derived.Test.YtmflgfojicaecaaGreatDoorMWd
import Derived.Test.YtmflgfojicaecaaGreatDoorMSi
import Derived.Test.YtmflgfojicaecaaGreatDoorMVa
namespace SrcN
open LexN
theorem tds_of : ∀ (dc : List XD), (∀ d ∈ dc, declB d = true) → ∃ ds : List TD, dc = ds.map TD.xd ∧ ∀ d ∈ ds, (d.k = 1 ∨ d.k = 2 ∨ d.k = 3) ∧ okT d.ps.length d.t = true ∧ declB d.xd = true
  | [], _ => ⟨[], rfl, fun d h => by cases h⟩
  | x :: r, h => by
    obtain ⟨ds, h1, h2⟩ := tds_of r (fun d hd => h d (List.mem_cons_of_mem _ hd))
    have hx := h x (List.mem_cons_self)
    have hb : (x.k = 1 ∨ x.k = 2 ∨ x.k = 3) ∧ bodyB x.bd x.ps.length = true := by
      unfold declB at hx
      by_cases k1 : x.k = 1
      · rw [if_pos k1] at hx
        simp only [Bool.and_eq_true] at hx
        exact ⟨.inl k1, hx.2.2⟩
      · rw [if_neg k1] at hx
        by_cases k2 : x.k = 2
        · rw [if_pos k2] at hx
          simp only [Bool.and_eq_true, decide_eq_true_eq] at hx
          exact ⟨.inr (.inl k2), by rw [hx.2.1]; exact hx.2.2⟩
        · rw [if_neg k2] at hx
          by_cases k3 : x.k = 3
          · rw [if_pos k3] at hx
            simp only [Bool.and_eq_true, decide_eq_true_eq] at hx
            exact ⟨.inr (.inr k3), by rw [hx.2.1]; exact hx.2.2⟩
          · rw [if_neg k3] at hx; cases hx
    obtain ⟨t, ht, hbd⟩ := tree_of hb.2
    have e : x = TD.xd ⟨x.k, x.nm, x.ps, t⟩ := by
      unfold TD.xd
      cases x
      simp only at hbd ⊢
      rw [← hbd]
    refine ⟨⟨x.k, x.nm, x.ps, t⟩ :: ds, by rw [List.map_cons, ← e, ← h1], fun d hd => ?_⟩
    rcases List.mem_cons.1 hd with rfl | hd
    · exact ⟨hb.1, ht, by rw [← e]; exact hx⟩
    · exact h2 d hd
end SrcN
namespace Go.Proofs.YtmflgfojicaecaaGreatDoor
namespace By
open Go.RowKit WireN LexN SrcN
set_option linter.unusedVariables false
set_option linter.unusedSimpArgs false

theorem Wt.fresh (w : World) : Wt w (w.alloc (.cells #[.pointer none, .slice none 0 0, .int .i64 0, .string ⟨#[]⟩, .slice none 0 0, .slice none 0 0] 73)) w.heap.size [] (.int .i64 0) (.string ⟨#[]⟩) (.slice none 0 0) (.slice none 0 0) :=
  ⟨⟨_, _, ⟨Blk.new _ _ _, .inl rfl, World.ownsRow_nil _ _ _ _, by simp [Value.ownBlock], Nat.le_refl _, Lt.nil⟩⟩, kp_alloc _ _⟩
theorem Wt.base {w0 w1 w : World} {b : Nat} {l : List Nat} {d0 d1 d2 d3 : Value} (h : Wt w1 w b l d0 d1 d2 d3) (hk : Kp w0 w1) : Wt w0 w b l d0 d1 d2 d3 := by
  obtain ⟨p, v, h1⟩ := h.ex
  refine ⟨⟨p, v, ⟨h1.blk, h1.pp, ?_, h1.ne, Nat.le_trans hk.size h1.ge, h1.lt⟩⟩, Kp.trans hk h.kp⟩
  refine ⟨h1.own.1, ?_⟩
  rcases h1.own.2 with hn | ⟨g, cap, cur, he, hb, hg, r⟩
  · exact .inl hn
  · exact .inr ⟨g, cap, cur, he, Nat.le_trans hk.size hb, hg, r⟩
theorem String_t {w0 w : World} {b : Nat} {d0 d1 d2 d3 : Value} {l : List Nat} (h : Wt w0 w b l d0 d1 d2 d3) (h0 : l ≠ []) (hlen : l.length ≤ 1000000000) :
    Calls Tryz.prog 42 #[.pointer (some ⟨b, 0, none⟩)] w fun e w' => e = .returned (.string (st l)) ∧ Kp w0 w' := by
  obtain ⟨p, v, h1⟩ := h.ex
  exact (String_w h1 h0 hlen).mono fun e w' hh => ⟨hh.1, Below.trans h.kp hh.2⟩
set_option maxRecDepth 100000 in
set_option maxHeartbeats 2000000 in
theorem Format_bad {f : XS} {iv dv : Value} {w : World} (hG : Glob w) (hS : SrcV w iv dv f) (hil9 : f.im.length < 1000000) (hc : chk f ≠ 0) :
    Calls Tryz.prog 13 #[.agg #[.string (st f.pk), iv, dv]] w fun e w' => e = .returned (.tuple #[.string ⟨#[]⟩, .int .i64 (chk f : Nat)]) ∧ Kp w w' := by
  have HS := Lib.hid hS; have HG := Lib.hid hG; have H9 := Lib.hid hil9
  obtain ⟨⟨ia, ic, rfl, -, -⟩, -⟩ := hS.im
  obtain ⟨⟨da, dcp, rfl, -, -⟩, -⟩ := hS.dc
  obtain ⟨W0, hW0⟩ : ∃ W0, W0 = w.alloc (Obj.cells #[.string (st f.pk), .slice ia f.im.length ic, .slice da f.dc.length dcp] 29) := ⟨_, rfl⟩
  have k0 : Kp w W0 := by rw [hW0]; exact kp_alloc w _
  have bb : Blk W0 w.heap.size 29 #[.string (st f.pk), .slice ia f.im.length ic, .slice da f.dc.length dcp] := by rw [hW0]; exact Blk.new _ _ _
  have C := Lib.hid (Check_any (hG.kp' k0) (hS.kp k0) hil9)
  obtain ⟨E, hE⟩ : ∃ b, b = chk f := ⟨_, rfl⟩
  rw [← hE] at C hc ⊢
  obtain ⟨S, hSS⟩ : ∃ x, x = st f.pk := ⟨_, rfl⟩
  obtain ⟨il, hil⟩ : ∃ x, x = f.im.length := ⟨_, rfl⟩
  obtain ⟨dl, hdl⟩ : ∃ x, x = f.dc.length := ⟨_, rfl⟩
  rw [← hSS, ← hil, ← hdl] at C hW0 bb ⊢
  have K0 := Lib.hid k0; have HW0 := Lib.hid hW0
  have c0 := bb.cell 0 rfl; have c1 := bb.cell 1 rfl; have c2 := bb.cell 2 rfl
  rw [hW0] at c0 c1 c2
  have n0 : ((E : Int) == 0) = false := by
    have : (E : Int) ≠ 0 := by omega
    simpa using this
  clear hE hSS hil hdl hW0 k0 bb hS hG hil9 hc
  go_enter Tryz.func13, Tryz.ntmps13
  go_wp2_with fail
  rw [← HW0.out]
  refine C.out.mono ?_
  rintro e W1 ⟨rfl, hk1⟩
  have HK1 := Lib.hid (Kp.trans K0.out hk1)
  clear hk1 c0 c1 c2
  go_wp2_with fail
  go_ret2
  exact ⟨rfl, HK1.out⟩
set_option maxRecDepth 100000 in
set_option maxHeartbeats 4000000 in
theorem Format_ok {f : XS} {iv dv : Value} {w : World} {ds : List TD} {T : List Nat} {n : Nat} {R : SrcN.Src × Nat × Nat} (hG : Glob w) (hT : Tab10 w) (hS : SrcV w iv dv f) (hcap : CapD w dv) (hil9 : f.im.length < 1000000) (hc : chk f = 0) (hds : f.dc = ds.map TD.xd) (hok : ∀ d ∈ ds, (d.k = 1 ∨ d.k = 2 ∨ d.k = 3) ∧ okT d.ps.length d.t = true) (hTT : T = fileT f.pk f.im ds) (hlen : T.length ≤ 1000000000) (hp : SrcN.parse n T = some R) :
    Calls Tryz.prog 13 #[.agg #[.string (st f.pk), iv, dv]] w fun e w' => e = .returned (.tuple #[.string (st (if R.2.2 = 0 then T else [])), .int .i64 (R.2.2 : Nat)]) ∧ Kp w w' := by
  have HS := Lib.hid hS; have HG := Lib.hid hG; have HT := Lib.hid hT
  obtain ⟨⟨ia, ic, rfl, -, -⟩, -⟩ := hS.im
  obtain ⟨⟨da, dcp, rfl, -, -⟩, -⟩ := hS.dc
  obtain ⟨W0, hW0⟩ : ∃ W0, W0 = w.alloc (Obj.cells #[.string (st f.pk), .slice ia f.im.length ic, .slice da f.dc.length dcp] 29) := ⟨_, rfl⟩
  have k0 : Kp w W0 := by rw [hW0]; exact kp_alloc w _
  have bb : Blk W0 w.heap.size 29 #[.string (st f.pk), .slice ia f.im.length ic, .slice da f.dc.length dcp] := by rw [hW0]; exact Blk.new _ _ _
  have C := Lib.hid (Check_any (hG.kp' k0) (hS.kp k0) hil9)
  have CF : Hid (∀ W b d0 d1 d2 d3, Wt w W b [] d0 d1 d2 d3 → Calls Tryz.prog 41 #[.pointer (some ⟨b, 0, none⟩), .agg #[.string (st f.pk), .slice ia f.im.length ic, .slice da f.dc.length dcp]] W (WroteF w b T W)) := Lib.hid (fun W b d0 d1 d2 d3 hW => by
    have := file_any hG hT hS hcap hds hok hW (by rw [← hTT]; simpa using hlen)
    rw [← hTT, List.nil_append] at this
    exact this)
  rw [hc] at C
  obtain ⟨S, hSS⟩ : ∃ x, x = st f.pk := ⟨_, rfl⟩
  obtain ⟨il, hil⟩ : ∃ x, x = f.im.length := ⟨_, rfl⟩
  obtain ⟨dl, hdl⟩ : ∃ x, x = f.dc.length := ⟨_, rfl⟩
  rw [← hSS, ← hil, ← hdl] at C CF hW0 bb ⊢
  have K0 := Lib.hid k0; have HW0 := Lib.hid hW0; have BB := Lib.hid bb
  have c0 := bb.cell 0 rfl; have c1 := bb.cell 1 rfl; have c2 := bb.cell 2 rfl
  rw [hW0] at c0 c1 c2
  have HNE : Hid (T ≠ []) := Lib.hid (by rw [hTT]; simp [fileT])
  have HLEN := Lib.hid hlen; have HP := Lib.hid hp
  obtain ⟨Q, hQ⟩ : ∃ Q, Q = fun (e : Ending) (w' : World) => e = .returned (.tuple #[.string (st (if R.2.2 = 0 then T else [])), .int .i64 (R.2.2 : Nat)]) ∧ Kp w w' := ⟨_, rfl⟩
  have HQ := Lib.hid hQ
  rw [← hQ]
  clear hSS hil hdl hW0 k0 bb hS hG hil9 hc hT hcap hds hok hTT hlen hp hQ
  go_enter Tryz.func13, Tryz.ntmps13
  go_wp2_with fail
  rw [← HW0.out]
  refine C.out.mono ?_
  rintro e W1 ⟨rfl, hk1⟩
  have HK1 := Lib.hid (Kp.trans K0.out hk1)
  have b1 := BB.out.keep hk1
  obtain ⟨W2, hW2⟩ : ∃ W2, W2 = W1.alloc (Obj.cells #[.pointer none, .slice none 0 0, .int .i64 0, .string ⟨#[]⟩, .slice none 0 0, .slice none 0 0] 73) := ⟨_, rfl⟩
  have hw2 : Wt w W2 W1.heap.size [] (.int .i64 0) (.string ⟨#[]⟩) (.slice none 0 0) (.slice none 0 0) := by
    rw [hW2]; exact (Wt.fresh W1).base HK1.out
  have k2 : Kp W1 W2 := by rw [hW2]; exact kp_alloc _ _
  have b2 := b1.keep k2
  have H2 := Lib.hid hw2; have HW2 := Lib.hid hW2
  have d0 := b2.cell 0 rfl; have d1 := b2.cell 1 rfl; have d2 := b2.cell 2 rfl
  rw [hW2] at d0 d1 d2
  clear hk1 c0 c1 c2 b1 hW2 hw2 k2 b2
  go_wp2_with fail
  rw [← HW2.out]
  refine (CF.out _ _ _ _ _ _ H2.out).mono ?_
  rintro e W3 ⟨x0, x1, x2, x3, rfl, h3, o3⟩
  have H3 := Lib.hid h3
  have HLT : Hid (Lt T) := Lib.hid (by obtain ⟨p, v, h⟩ := h3.ex; exact h.lt)
  clear h3 o3 d0 d1 d2
  go_wp2_with fail
  refine (String_t H3.out HNE.out HLEN.out).mono ?_
  rintro e W4 ⟨rfl, hk4⟩
  have HK4 := Lib.hid hk4
  have CP := Lib.hid (parse_st HLT.out (HG.out.kp' hk4) HP.out)
  obtain ⟨ST, hST⟩ : ∃ x, x = st T := ⟨_, rfl⟩
  rw [← hST] at CP ⊢
  have HST := Lib.hid hST
  clear hk4 hST
  go_wp2_with fail
  refine CP.out.mono ?_
  rintro e W5 ⟨iv2, dv2, xs2, rfl, hsrc, hk5⟩
  obtain ⟨D, hs1, hs2, -, -⟩ := hsrc.ex
  obtain ⟨io, ic', hiv⟩ := row_open hs1.own
  obtain ⟨do', dc', hdv⟩ := row_open hs2.row.own
  have HK5 := Lib.hid (Kp.trans HK4.out hk5)
  obtain ⟨PS, hPS⟩ : ∃ x, x = st R.1.pk := ⟨_, rfl⟩
  obtain ⟨il2, hil2⟩ : ∃ x, x = R.1.im.length := ⟨_, rfl⟩
  obtain ⟨dl2, hdl2⟩ : ∃ x, x = R.1.dc.length := ⟨_, rfl⟩
  obtain ⟨A, hA⟩ : ∃ x, x = R.2.1 := ⟨_, rfl⟩
  obtain ⟨E, hE⟩ : ∃ x, x = R.2.2 := ⟨_, rfl⟩
  rw [← hE] at HQ
  rw [← hPS, ← hA, ← hE]
  rw [← hil2] at hiv
  rw [← hdl2] at hdv
  subst hiv hdv
  clear hsrc hk5 hs1 hs2 hPS hil2 hdl2 hA hE
  by_cases hE0 : E = 0
  · have FIN : Hid (∀ W, Kp W5 W → Q (.returned (.tuple #[.string ST, .int .i64 0])) W) := Lib.hid (fun W hk => by
      rw [HQ.out, hE0, if_pos rfl, HST.out]
      exact ⟨rfl, Kp.trans HK5.out hk⟩)
    have KA := Lib.hid (kp_alloc W5 (Obj.cells #[.string PS, .slice io il2 ic', .slice do' dl2 dc'] 29))
    subst hE0
    go_wp2_with fail

    exact FIN.out _ KA.out
  · have FIN : Hid (∀ W, Kp W5 W → Q (.returned (.tuple #[.string ⟨#[]⟩, .int .i64 (E : Nat)])) W) := Lib.hid (fun W hk => by
      rw [HQ.out, if_neg hE0]
      exact ⟨rfl, Kp.trans HK5.out hk⟩)
    have KA := Lib.hid (kp_alloc W5 (Obj.cells #[.string PS, .slice io il2 ic', .slice do' dl2 dc'] 29))
    have n0 : ((E : Int) == 0) = false := by
      have : (E : Int) ≠ 0 := by omega
      simpa using this
    clear hE0
    go_wp2_with fail

    exact FIN.out _ KA.out
end By
end Go.Proofs.YtmflgfojicaecaaGreatDoor

/- The sanity check of the statements of source. Condition: the package variables that the code reads lie in memory. -/
namespace SrcN
open LexN
def txtA : List Nat := [112, 97, 99, 107, 97, 103, 101, 32, 112, 59, 32, 102, 117, 110, 99, 32, 102, 40, 120, 41, 32, 61, 32, 120, 32, 43, 32, 50, 32, 42, 32, 51, 59]
def txtF : List Nat := [112, 97, 99, 107, 97, 103, 101, 32, 112, 59, 10, 102, 117, 110, 99, 32, 102, 40, 120, 41, 32, 61, 32, 120, 32, 43, 32, 50, 32, 42, 32, 51, 59, 10]
def srcA : SrcN.Src := ⟨[112], [], [⟨1, [102], [[120]], [⟨2, 0, 0, [], []⟩, ⟨1, 2, 0, [], []⟩, ⟨1, 3, 0, [], []⟩, ⟨4, 0, 3, [], [1, 2]⟩, ⟨4, 0, 1, [], [0, 3]⟩]⟩]⟩
def treA : TD := ⟨1, [102], [[120]], .mk 4 0 1 [] [.mk 2 0 0 [] [], .mk 4 0 3 [] [.mk 1 2 0 [] [], .mk 1 3 0 [] []]]⟩
theorem parseA : parse 60 txtA = some (srcA, 0, 0) := by decide +kernel
theorem parseF : parse 60 txtF = some (srcA, 0, 0) := by decide +kernel
theorem shortA : shortS srcA = true := by decide +kernel
theorem chkA : chk srcA.xs = 0 := by decide +kernel
theorem dcA : srcA.xs.dc = [treA].map TD.xd := by rfl
theorem okA : okT treA.ps.length treA.t = true := by decide +kernel
theorem itoa_small {u : Nat} (h : u < 10) : itoaN (u : Int) = [48 + u] := by
  unfold itoaN Go.Lib.itoa
  rw [if_neg (by omega), Int.toNat_natCast, Go.Lib.decDigits, dif_pos h]
  simp only [List.map_cons, List.map_nil, List.cons.injEq, and_true]
  obtain rfl | rfl | rfl | rfl | rfl | rfl | rfl | rfl | rfl | rfl : u = 0 ∨ u = 1 ∨ u = 2 ∨ u = 3 ∨ u = 4 ∨ u = 5 ∨ u = 6 ∨ u = 7 ∨ u = 8 ∨ u = 9 := by omega
  all_goals rfl
theorem textA : txtF = fileT srcA.xs.pk srcA.xs.im [treA] := by
  have h2 := itoa_small (u := 2) (by omega)
  have h3 := itoa_small (u := 3) (by omega)
  have e2 : itoaN 2 = [50] := h2
  have e3 : itoaN 3 = [51] := h3
  simp [fileT, importsT, declsT, declT, headT, treA, srcA, Src.xs, wrT, wrTs, SrcN.txt, lvOf, opLv, opLf, opSg, SrcN.join, e2, e3, txtF]
end SrcN

/- The sanity check of the statements of source: it holds. Condition: the package variables that the code reads lie in memory. -/
namespace Go.Proofs.YtmflgfojicaecaaGreatDoor
namespace By
open Go.RowKit WireN LexN SrcN
set_option linter.unusedVariables false
set_option linter.unusedSimpArgs false

theorem SrcAt.cap {F : Nat → Prop} {W : World} {f : SrcN.Src} {iv dv : Value} {xs : List (Value × Value)} (h : SrcAt F W f iv dv xs) : CapD W dv := by
  intro g o n c e j hj pa pl pc hcell
  obtain ⟨D, h1, h2, -, -⟩ := h.ex
  obtain ⟨ao, c', e1⟩ := row_open h2.row.own
  rw [e] at e1
  simp only [Value.slice.injEq] at e1
  have hn : n = f.dc.length := e1.2.1
  obtain ⟨g', c2, e2, -, hx⟩ := row_cells h2.row.own (by omega)
  rw [e] at e2
  simp only [Value.slice.injEq, Option.some.injEq, Addr.mk.injEq] at e2
  obtain ⟨⟨rfl, rfl, -⟩, -, -⟩ := e2
  obtain ⟨d, hd⟩ : ∃ d, f.dc[j]? = some d := ⟨_, List.getElem?_eq_getElem (by omega)⟩
  obtain ⟨x, hxj, hc⟩ := dcells_vat f.dc xs j d h2.row.len hd
  have h3 := hx _ _ (hc 2 _ rfl)
  rw [Nat.zero_add] at hcell
  rw [hcell] at h3
  have h4 : x.1 = .slice pa pl pc := (Option.some.inj h3).symm
  have hA := (h2.all j d x hd hxj).prow
  rw [h4] at hA
  rcases hA.2 with ⟨hv, h0⟩ | ⟨g2, cap, cur, hv, hb, hg, hnc, r⟩
  · simp only [Value.slice.injEq] at hv; omega
  · simp only [Value.slice.injEq] at hv; omega
theorem stF : st txtF = ⟨#[112, 97, 99, 107, 97, 103, 101, 32, 112, 59, 10, 102, 117, 110, 99, 32, 102, 40, 120, 41, 32, 61, 32, 120, 32, 43, 32, 50, 32, 42, 32, 51, 59, 10]⟩ := by rfl
theorem stA : st txtA = ⟨#[112, 97, 99, 107, 97, 103, 101, 32, 112, 59, 32, 102, 117, 110, 99, 32, 102, 40, 120, 41, 32, 61, 32, 120, 32, 43, 32, 50, 32, 42, 32, 51, 59]⟩ := by rfl
theorem ltA : Lt txtA := lt_of_mem (by decide)
set_option maxRecDepth 100000 in
set_option maxHeartbeats 4000000 in
theorem awake5_any {w : World} (hG : Glob w) (hT : Tab10 w) : Calls Tryz.prog 17 #[] w fun e w' => e = .returned (.bool true) ∧ Kp w w' := by
  have CP := Lib.hid (parse_st ltA hG parseA)
  rw [stA] at CP
  have HG := Lib.hid hG; have HT := Lib.hid hT
  clear hG hT
  go_enter Tryz.func17, Tryz.ntmps17
  go_wp2_with fail
  refine CP.out.mono ?_
  rintro e W1 ⟨iv, dv, xs, rfl, hsrc, hk1⟩
  have hv := hsrc.v shortA
  have hc := hsrc.cap
  obtain ⟨⟨ia, ic, rfl, -, -⟩, -⟩ := hv.im
  obtain ⟨⟨da, dcp, rfl, -, hcell⟩, -⟩ := hv.dc
  rcases hcell with h0 | ⟨g, o, rfl, hcell⟩
  · cases h0
  obtain ⟨pa, pc, ba, bc, n0, n1, n2, n3, hP, hB⟩ := hcell 0 _ rfl
  obtain ⟨⟨bo, bcc, e1, -, hnd⟩, -⟩ := hB
  simp only [Value.slice.injEq] at e1
  obtain ⟨rfl, -, rfl⟩ := e1
  rcases hnd with h0 | ⟨gb, ob, rfl, hnd⟩
  · cases h0
  obtain ⟨aa, ac, -, -, m2, -⟩ := hnd 4 _ rfl
  have HV := Lib.hid hv; have HC := Lib.hid hc; have HK1 := Lib.hid hk1
  have q3 : W1.cell? ⟨g, o + 3, none⟩ = some (.slice (some ⟨gb, ob, none⟩) 5 bc) := n3
  have q4 : W1.cell? ⟨gb, ob + 20 + 2, none⟩ = some (.int .i64 1) := m2
  have Q3 := Lib.hid q3; have Q4 := Lib.hid q4
  have CF : Hid (∀ W, Kp W1 W → Calls Tryz.prog 13 #[.agg #[.string ⟨#[112]⟩, .slice ia 0 ic, .slice (some ⟨g, o, none⟩) 1 dcp]] W fun e w' => e = .returned (.tuple #[.string ⟨#[112, 97, 99, 107, 97, 103, 101, 32, 112, 59, 10, 102, 117, 110, 99, 32, 102, 40, 120, 41, 32, 61, 32, 120, 32, 43, 32, 50, 32, 42, 32, 51, 59, 10]⟩, .int .i64 0]) ∧ Kp W w') := Lib.hid (fun W hk => by
    have := Format_ok (f := srcA.xs) (ds := [treA]) (T := txtF) (n := 60) (R := (srcA, 0, 0)) (HG.out.kp' (Kp.trans HK1.out hk)) (tab_keep HT.out (Kp.trans HK1.out hk)) (HV.out.kp hk) (fun g' o' n' c' e j hj pa pl pc hcl => by
      simp only [Value.slice.injEq, Option.some.injEq, Addr.mk.injEq] at e
      obtain ⟨⟨rfl, rfl, -⟩, rfl, rfl⟩ := e
      have hj0 : j = 0 := by have : (srcA.xs.dc).length = 1 := rfl; omega
      subst hj0
      have := cell_kept n2 hk
      simp only [Nat.zero_mul, Nat.add_zero] at hcl this
      rw [hcl] at this
      have h5 := Option.some.inj this
      simp only [Value.slice.injEq] at h5
      obtain ⟨rfl, rfl, rfl⟩ := h5
      exact HC.out g o _ _ rfl 0 (by decide) pa _ pc (by simpa using n2)) (by decide) chkA dcA (fun d hd => by
        obtain rfl : d = treA := by simpa using hd
        exact ⟨.inl rfl, okA⟩) textA (by decide) parseF
    rw [if_pos rfl, stF] at this
    exact this)
  have CC : Hid (∀ W, Kp W1 W → Calls Tryz.prog 9 #[.agg #[.string ⟨#[112]⟩, .slice ia 0 ic, .slice (some ⟨g, o, none⟩) 1 dcp]] W fun e w' => e = .returned (.int .i64 0) ∧ Kp W w') := Lib.hid (fun W hk => by
    have := Check_any (f := srcA.xs) (HG.out.kp' (Kp.trans HK1.out hk)) (HV.out.kp hk) (by decide)
    rw [chkA] at this
    exact this)
  have e112 : st srcA.pk = ⟨#[112]⟩ := by rfl
  have el1 : srcA.xs.im.length = 0 := rfl
  have el2 : srcA.xs.dc.length = 1 := rfl
  rw [e112, el1, el2]
  obtain ⟨W2, hW2⟩ : ∃ W2, W2 = W1.alloc (Obj.cells #[.string ⟨#[112]⟩, .slice ia 0 ic, .slice (some ⟨g, o, none⟩) 1 dcp] 29) := ⟨_, rfl⟩
  have k2 : Kp W1 W2 := by rw [hW2]; exact kp_alloc _ _
  have bb : Blk W2 W1.heap.size 29 #[.string ⟨#[112]⟩, .slice ia 0 ic, .slice (some ⟨g, o, none⟩) 1 dcp] := by rw [hW2]; exact Blk.new _ _ _
  have BB := Lib.hid bb; have K2 := Lib.hid k2; have HW2 := Lib.hid hW2
  have c0 := bb.cell 0 rfl; have c1 := bb.cell 1 rfl; have c2 := bb.cell 2 rfl
  rw [hW2] at c0 c1 c2
  clear hsrc hv hc hk1 hcell n0 n1 n2 n3 hP hnd m2 q3 q4 e112 el1 el2 hW2 k2 bb
  go_wp2_with fail
  rw [← HW2.out]
  refine (CF.out _ K2.out).mono ?_
  rintro e W3 ⟨rfl, hk3⟩
  have b3 := BB.out.keep hk3
  have K3 := Lib.hid (Kp.trans K2.out hk3)
  have d0 := b3.cell 0 rfl; have d1 := b3.cell 1 rfl; have d2 := b3.cell 2 rfl
  have q3 := cell_kept Q3.out K3.out
  have q4 := cell_kept Q4.out K3.out
  clear b3 hk3 c0 c1 c2
  go_wp2_with fail
  refine (CC.out _ K3.out).mono ?_
  rintro e W4 ⟨rfl, hk4⟩
  have HK4 := Lib.hid (Kp.trans HK1.out (Kp.trans K3.out hk4))
  clear hk4 d0 d1 d2 q3 q4
  go_wp2_with fail
  go_ret
  exact ⟨rfl, HK4.out⟩
end By
end Go.Proofs.YtmflgfojicaecaaGreatDoor
