/- Check of a source, fifth part: declarations. Conditions: names have at most a million bytes, rows at most a million items; a package variable of the library holds some integer. -/
import Derived.Test.YtmflgfojicaecaaGreatDoorMCb
namespace Go.Proofs.YtmflgfojicaecaaGreatDoor
namespace By
open Go.RowKit WireN LexN SrcN
set_option linter.unusedVariables false
set_option linter.unusedSimpArgs false

set_option maxRecDepth 100000 in
set_option maxHeartbeats 8000000 in
theorem isDecl_any {d : XD} {pa ba : Option Addr} {pc bc : Nat} {w : World} (hG : Glob w) (hl : Lt d.nm) (hlen : d.nm.length ≤ 1000000) (hP : Sts w (.slice pa d.ps.length pc) d.ps) (hB : Nds w (.slice ba d.bd.length bc) d.bd) :
    Calls Tryz.prog 58 #[.agg #[.int .i64 d.k, .string (st d.nm), .slice pa d.ps.length pc, .slice ba d.bd.length bc]] w fun e w' => e = .returned (.bool (declB d)) ∧ Kp w w' := by
  obtain ⟨W0, hW0⟩ : ∃ W0, W0 = w.alloc (Obj.cells #[.int .i64 d.k, .string (st d.nm), .slice pa d.ps.length pc, .slice ba d.bd.length bc] 38) := ⟨_, rfl⟩
  have k0 : Kp w W0 := by rw [hW0]; exact kp_alloc w _
  have bb : Blk W0 w.heap.size 38 #[.int .i64 d.k, .string (st d.nm), .slice pa d.ps.length pc, .slice ba d.bd.length bc] := by rw [hW0]; exact Blk.new _ _ _
  have CN : Hid (∀ W, Kp w W → Calls Tryz.prog 55 #[.string (st d.nm)] W fun e w' => e = .returned (.bool (isNm d.nm)) ∧ Kp W w') := Lib.hid (fun W hk => (isName_any hl hlen W).mono fun e w' h => ⟨h.1, by rw [← h.2]; exact Kp.refl _⟩)
  have CP : Hid (∀ W, Kp w W → Calls Tryz.prog 104 #[.string (st d.nm)] W fun e w' => e = .returned (.bool (pathB d.nm)) ∧ Kp W w') := Lib.hid (fun W hk => by
    obtain ⟨m, hm⟩ := (hG.kp' hk).mx
    exact Path_any hl hlen hm)
  have CA : Hid (∀ W, Kp w W → Calls Tryz.prog 56 #[.slice pa d.ps.length pc, .func (.func 55) #[] #[]] W fun e w' => e = .returned (.bool (d.ps.all isNm)) ∧ Kp W w') := Lib.hid (fun W hk => allNm_any (hP.kp hk))
  have CB : Hid (∀ W (n : Int), Kp w W → Calls Tryz.prog 103 #[.slice ba d.bd.length bc, .int .i64 n] W fun e w' => e = .returned (.bool (bodyB d.bd n)) ∧ Kp W w') := Lib.hid (fun W n hk => isBody_any (hG.kp' hk) (hB.kp hk))
  obtain ⟨kk, hkk⟩ : ∃ x, x = d.k := ⟨_, rfl⟩
  obtain ⟨S, hS⟩ : ∃ x, x = st d.nm := ⟨_, rfl⟩
  obtain ⟨pl, hpl⟩ : ∃ x, x = d.ps.length := ⟨_, rfl⟩
  obtain ⟨bl, hbl⟩ : ∃ x, x = d.bd.length := ⟨_, rfl⟩
  rw [← hkk, ← hS, ← hpl, ← hbl] at hW0 bb ⊢
  rw [← hS] at CN CP
  rw [← hpl] at CA
  rw [← hbl] at CB
  have c0 := bb.cell 0 rfl; have c1 := bb.cell 1 rfl; have c2 := bb.cell 2 rfl; have c3 := bb.cell 3 rfl
  obtain ⟨p1, hp1⟩ : ∃ b, b = isNm d.nm := ⟨_, rfl⟩
  obtain ⟨p2, hp2⟩ : ∃ b, b = pathB d.nm := ⟨_, rfl⟩
  obtain ⟨p3, hp3⟩ : ∃ b, b = d.ps.all isNm := ⟨_, rfl⟩
  obtain ⟨p4, hp4⟩ : ∃ b, b = bodyB d.bd (pl : Int) := ⟨_, rfl⟩
  obtain ⟨p5, hp5⟩ : ∃ b, b = bodyB d.bd 0 := ⟨_, rfl⟩
  obtain ⟨z, hz⟩ : ∃ b, b = ((pl : Int) == 0) := ⟨_, rfl⟩
  have CB1 : Hid (∀ W, Kp w W → Calls Tryz.prog 103 #[.slice ba bl bc, .int .i64 (pl : Int)] W fun e w' => e = .returned (.bool p4) ∧ Kp W w') := Lib.hid (fun W hk => by rw [hp4]; exact CB.out W _ hk)
  have CB2 : Hid (∀ W, Kp w W → Calls Tryz.prog 103 #[.slice ba bl bc, .int .i64 0] W fun e w' => e = .returned (.bool p5) ∧ Kp W w') := Lib.hid (fun W hk => by rw [hp5]; exact CB.out W _ hk)
  rw [← hp1] at CN
  rw [← hp2] at CP
  rw [← hp3] at CA
  have HD : Hid (declB d = if kk = 1 then p1 && (p3 && p4) else if kk = 2 then p1 && (z && p5) else if kk = 3 then p2 && (z && p5) else false) := Lib.hid (by
    have e : decide (d.ps.length = 0) = z := by
      rw [hz, hpl, show ((d.ps.length : Int) == 0) = (d.ps.length == 0) from nb_beq _ 0]
      by_cases h : d.ps.length = 0 <;> simp [h]
    unfold declB
    rw [e, hp1, hp2, hp3, hp4, hp5, hkk, hpl])
  obtain ⟨E, hE⟩ : ∃ b, b = declB d := ⟨_, rfl⟩
  rw [← hE] at HD ⊢
  have K0 := Lib.hid k0
  have qz := hz.symm
  have HW0 := Lib.hid hW0
  obtain ⟨xb, hxb⟩ : ∃ x, x = w.heap.size := ⟨_, rfl⟩
  have HXB := Lib.hid hxb
  have D := Lib.hid (And.intro c0 (And.intro c1 (And.intro c2 c3)))
  rw [hW0] at c0
  clear CB hkk hS hpl hbl hp1 hp2 hp3 hp4 hp5 hz hE hG hl hlen hP hB k0 hW0 hxb bb c1 c2 c3
  by_cases e1 : kk = 1
  · subst e1
    cases p1 with
    | false =>
      obtain ⟨d0, d1, d2, d3⟩ := D.out
      rw [HW0.out] at d0 d1 d2 d3
      clear c0
      go_enter Tryz.func58, Tryz.ntmps58
      go_wp2_with fail
      rw [← HW0.out] at d0 d1 d2 d3 ⊢
      refine (CN.out _ K0.out).mono ?_
      rintro e W1 ⟨rfl, hk1⟩
      have HK1 := Lib.hid (Kp.trans K0.out hk1)
      have e2 := cell_kept d2 hk1; have e3 := cell_kept d3 hk1
      clear d0 d1 d2 d3 hk1
      go_wp2_with fail
      go_ret
      exact ⟨by rw [HD.out]; simp, HK1.out⟩
    | true =>
      cases p3 with
      | false =>
        obtain ⟨d0, d1, d2, d3⟩ := D.out
        rw [HW0.out] at d0 d1 d2 d3
        clear c0
        go_enter Tryz.func58, Tryz.ntmps58
        go_wp2_with fail
        rw [← HW0.out] at d0 d1 d2 d3 ⊢
        refine (CN.out _ K0.out).mono ?_
        rintro e W1 ⟨rfl, hk1⟩
        have HK1 := Lib.hid (Kp.trans K0.out hk1)
        have e2 := cell_kept d2 hk1; have e3 := cell_kept d3 hk1
        clear d0 d1 d2 d3 hk1
        go_wp2_with fail
        refine (CA.out _ HK1.out).mono ?_
        rintro e W2 ⟨rfl, hk2⟩
        have HK2 := Lib.hid (Kp.trans HK1.out hk2)
        have f2 := cell_kept e2 hk2; have f3 := cell_kept e3 hk2
        clear e2 e3 hk2
        go_wp2_with fail
        go_ret
        exact ⟨by rw [HD.out]; simp, HK2.out⟩
      | true =>
        obtain ⟨d0, d1, d2, d3⟩ := D.out
        rw [HW0.out] at d0 d1 d2 d3
        clear c0
        go_enter Tryz.func58, Tryz.ntmps58
        go_wp2_with fail
        rw [← HW0.out] at d0 d1 d2 d3 ⊢
        refine (CN.out _ K0.out).mono ?_
        rintro e W1 ⟨rfl, hk1⟩
        have HK1 := Lib.hid (Kp.trans K0.out hk1)
        have e2 := cell_kept d2 hk1; have e3 := cell_kept d3 hk1
        clear d0 d1 d2 d3 hk1
        go_wp2_with fail
        refine (CA.out _ HK1.out).mono ?_
        rintro e W2 ⟨rfl, hk2⟩
        have HK2 := Lib.hid (Kp.trans HK1.out hk2)
        have f2 := cell_kept e2 hk2; have f3 := cell_kept e3 hk2
        clear e2 e3 hk2
        go_wp2_with fail
        refine (CB1.out _ HK2.out).mono ?_
        rintro e W3 ⟨rfl, hk3⟩
        have HK3 := Lib.hid (Kp.trans HK2.out hk3)
        clear hk3
        go_wp2_with fail
        go_ret
        exact ⟨by rw [HD.out]; simp, HK3.out⟩
  have n1 : (kk == 1) = false := beq_eq_false_iff_ne.2 e1
  by_cases e2 : kk = 2
  · subst e2
    cases p1 with
    | false =>
      obtain ⟨d0, d1, d2, d3⟩ := D.out
      rw [HW0.out] at d0 d1 d2 d3
      clear c0
      go_enter Tryz.func58, Tryz.ntmps58
      go_wp2_with fail
      rw [← HW0.out] at d0 d1 d2 d3 ⊢
      refine (CN.out _ K0.out).mono ?_
      rintro e W1 ⟨rfl, hk1⟩
      have HK1 := Lib.hid (Kp.trans K0.out hk1)
      have e2 := cell_kept d2 hk1; have e3 := cell_kept d3 hk1
      clear d0 d1 d2 d3 hk1
      go_wp2_with fail
      go_ret
      exact ⟨by rw [HD.out]; simp, HK1.out⟩
    | true =>
      cases z with
      | false =>
        obtain ⟨d0, d1, d2, d3⟩ := D.out
        rw [HW0.out] at d0 d1 d2 d3
        clear c0
        go_enter Tryz.func58, Tryz.ntmps58
        go_wp2_with fail
        rw [← HW0.out] at d0 d1 d2 d3 ⊢
        refine (CN.out _ K0.out).mono ?_
        rintro e W1 ⟨rfl, hk1⟩
        have HK1 := Lib.hid (Kp.trans K0.out hk1)
        have e2 := cell_kept d2 hk1; have e3 := cell_kept d3 hk1
        clear d0 d1 d2 d3 hk1
        go_wp2_with fail
        go_ret
        exact ⟨by rw [HD.out]; simp, HK1.out⟩
      | true =>
        obtain ⟨d0, d1, d2, d3⟩ := D.out
        rw [HW0.out] at d0 d1 d2 d3
        clear c0
        go_enter Tryz.func58, Tryz.ntmps58
        go_wp2_with fail
        rw [← HW0.out] at d0 d1 d2 d3 ⊢
        refine (CN.out _ K0.out).mono ?_
        rintro e W1 ⟨rfl, hk1⟩
        have HK1 := Lib.hid (Kp.trans K0.out hk1)
        have e2 := cell_kept d2 hk1; have e3 := cell_kept d3 hk1
        clear d0 d1 d2 d3 hk1
        go_wp2_with fail
        refine (CB2.out _ HK1.out).mono ?_
        rintro e W3 ⟨rfl, hk3⟩
        have HK3 := Lib.hid (Kp.trans HK1.out hk3)
        clear hk3
        go_wp2_with fail
        go_ret
        exact ⟨by rw [HD.out]; simp, HK3.out⟩
  have n2 : (kk == 2) = false := beq_eq_false_iff_ne.2 e2
  by_cases e3 : kk = 3
  · subst e3
    cases p2 with
    | false =>
      obtain ⟨d0, d1, d2, d3⟩ := D.out
      rw [HW0.out] at d0 d1 d2 d3
      clear c0
      go_enter Tryz.func58, Tryz.ntmps58
      go_wp2_with fail
      rw [← HW0.out] at d0 d1 d2 d3 ⊢
      refine (CP.out _ K0.out).mono ?_
      rintro e W1 ⟨rfl, hk1⟩
      have HK1 := Lib.hid (Kp.trans K0.out hk1)
      have e2 := cell_kept d2 hk1; have e3 := cell_kept d3 hk1
      clear d0 d1 d2 d3 hk1
      go_wp2_with fail
      go_ret
      exact ⟨by rw [HD.out]; simp, HK1.out⟩
    | true =>
      cases z with
      | false =>
        obtain ⟨d0, d1, d2, d3⟩ := D.out
        rw [HW0.out] at d0 d1 d2 d3
        clear c0
        go_enter Tryz.func58, Tryz.ntmps58
        go_wp2_with fail
        rw [← HW0.out] at d0 d1 d2 d3 ⊢
        refine (CP.out _ K0.out).mono ?_
        rintro e W1 ⟨rfl, hk1⟩
        have HK1 := Lib.hid (Kp.trans K0.out hk1)
        have e2 := cell_kept d2 hk1; have e3 := cell_kept d3 hk1
        clear d0 d1 d2 d3 hk1
        go_wp2_with fail
        go_ret
        exact ⟨by rw [HD.out]; simp, HK1.out⟩
      | true =>
        obtain ⟨d0, d1, d2, d3⟩ := D.out
        rw [HW0.out] at d0 d1 d2 d3
        clear c0
        go_enter Tryz.func58, Tryz.ntmps58
        go_wp2_with fail
        rw [← HW0.out] at d0 d1 d2 d3 ⊢
        refine (CP.out _ K0.out).mono ?_
        rintro e W1 ⟨rfl, hk1⟩
        have HK1 := Lib.hid (Kp.trans K0.out hk1)
        have e2 := cell_kept d2 hk1; have e3 := cell_kept d3 hk1
        clear d0 d1 d2 d3 hk1
        go_wp2_with fail
        refine (CB2.out _ HK1.out).mono ?_
        rintro e W3 ⟨rfl, hk3⟩
        have HK3 := Lib.hid (Kp.trans HK1.out hk3)
        clear hk3
        go_wp2_with fail
        go_ret
        exact ⟨by rw [HD.out]; simp, HK3.out⟩
  have n3 : (kk == 3) = false := beq_eq_false_iff_ne.2 e3
  have FIN : Hid (E = false) := Lib.hid (by rw [HD.out, if_neg e1, if_neg e2, if_neg e3])
  clear HD e1 e2 e3
  go_enter Tryz.func58, Tryz.ntmps58
  go_wp2_with fail
  go_ret
  rw [← HW0.out]
  exact ⟨by rw [FIN.out]; simp, K0.out⟩
end By
end Go.Proofs.YtmflgfojicaecaaGreatDoor

/- Check of a source, sixth part: a test of all declarations; isSource. Conditions: names have at most a million bytes, rows at most a million items; the package variables that the code reads lie in memory. -/
namespace Go.Proofs.YtmflgfojicaecaaGreatDoor
namespace By
open Go.RowKit WireN LexN SrcN
set_option linter.unusedVariables false
set_option linter.unusedSimpArgs false

/-- The cells of a declaration. -/
structure DAt (W : World) (g o : Nat) (d : XD) : Prop where
  ex : ∃ pa pc ba bc, W.cell? ⟨g, o, none⟩ = some (.int .i64 d.k) ∧ W.cell? ⟨g, o + 1, none⟩ = some (.string (st d.nm)) ∧ W.cell? ⟨g, o + 2, none⟩ = some (.slice pa d.ps.length pc) ∧ W.cell? ⟨g, o + 3, none⟩ = some (.slice ba d.bd.length bc) ∧ Sts W (.slice pa d.ps.length pc) d.ps ∧ Nds W (.slice ba d.bd.length bc) d.bd
theorem DAt.kp {W W' : World} {g o : Nat} {d : XD} (h : DAt W g o d) (hk : Kp W W') : DAt W' g o d := by
  obtain ⟨pa, pc, ba, bc, h0, h1, h2, h3, h4, h5⟩ := h
  exact ⟨pa, pc, ba, bc, cell_kept h0 hk, cell_kept h1 hk, cell_kept h2 hk, cell_kept h3 hk, h4.kp hk, h5.kp hk⟩
/-- A slice that reads as declarations. -/
structure Dcs (W : World) (v : Value) (ds : List XD) : Prop where
  ex : ∃ ao c, v = .slice ao ds.length c ∧ ds.length ≤ 1000000 ∧ (ds = [] ∨ ∃ g o, ao = some ⟨g, o, none⟩ ∧ ∀ j d, ds[j]? = some d → DAt W g (o + j * 4) d)
  ok : ∀ d ∈ ds, Lt d.nm ∧ d.nm.length ≤ 1000000
theorem Dcs.kp {W W' : World} {v : Value} {ds : List XD} (h : Dcs W v ds) (hk : Kp W W') : Dcs W' v ds := by
  obtain ⟨⟨ao, c, h1, h2, h3⟩, h4⟩ := h
  refine ⟨⟨ao, c, h1, h2, ?_⟩, h4⟩
  rcases h3 with h3 | ⟨g, o, e, hc⟩
  · exact .inl h3
  · exact .inr ⟨g, o, e, fun j n hn => (hc j n hn).kp hk⟩
/-- A function that tests a declaration. -/
structure FitsD (f : Nat) (q : XD → Bool) (pre : XD → Prop) : Prop where
  enter : ∀ (args : Array Value) (w : World), (callFunc f args).run Tryz.prog w = .ok (.enter f args) w
  any : ∀ {d : XD} {pa ba : Option Addr} {pc bc : Nat} {W : World} (_ : pre d) (_ : Glob W) (_ : Lt d.nm) (_ : d.nm.length ≤ 1000000) (_ : Sts W (.slice pa d.ps.length pc) d.ps) (_ : Nds W (.slice ba d.bd.length bc) d.bd),
    Calls Tryz.prog f #[.agg #[.int .i64 d.k, .string (st d.nm), .slice pa d.ps.length pc, .slice ba d.bd.length bc]] W fun e W' => e = .returned (.bool (q d)) ∧ Kp W W'
theorem fitsDecl : FitsD 58 declB (fun _ => True) := ⟨Tryz.call58, fun _ hG hl hlen hP hB => isDecl_any hG hl hlen hP hB⟩
set_option maxRecDepth 100000 in
theorem allD1_any {f : Nat} {q : XD → Bool} {pre : XD → Prop} (hf : FitsD f q pre) {d : XD} (hpre : pre d) {pa ba : Option Addr} {pc bc kb : Nat} {w : World} (hb : Blk w kb 94 #[.func (.func f) #[] #[]]) (hG : Glob w) (hl : Lt d.nm) (hlen : d.nm.length ≤ 1000000) (hP : Sts w (.slice pa d.ps.length pc) d.ps) (hB : Nds w (.slice ba d.bd.length bc) d.bd) :
    Calls Tryz.prog 102 #[.agg #[.int .i64 d.k, .string (st d.nm), .slice pa d.ps.length pc, .slice ba d.bd.length bc], .pointer (some ⟨kb, 0, none⟩)] w fun e w' => e = .returned (.bool (!q d)) ∧ Kp w w' := by
  obtain ⟨W0, hW0⟩ : ∃ W0, W0 = w.alloc (Obj.cells #[.int .i64 d.k, .string (st d.nm), .slice pa d.ps.length pc, .slice ba d.bd.length bc] 38) := ⟨_, rfl⟩
  have k0 : Kp w W0 := by rw [hW0]; exact kp_alloc w _
  have bb : Blk W0 w.heap.size 38 #[.int .i64 d.k, .string (st d.nm), .slice pa d.ps.length pc, .slice ba d.bd.length bc] := by rw [hW0]; exact Blk.new _ _ _
  have C := Lib.hid (hf.any hpre (hG.kp' k0) hl hlen (hP.kp k0) (hB.kp k0))
  have f0 := (hb.keep k0).cell 0 rfl
  have c0 := bb.cell 0 rfl; have c1 := bb.cell 1 rfl; have c2 := bb.cell 2 rfl; have c3 := bb.cell 3 rfl
  have hin := hf.enter
  have K0 := Lib.hid k0
  have HW0 := Lib.hid hW0
  obtain ⟨E, hE⟩ : ∃ E, E = q d := ⟨_, rfl⟩
  obtain ⟨S, hS⟩ : ∃ S, S = st d.nm := ⟨_, rfl⟩
  obtain ⟨kk, hkk⟩ : ∃ S, S = d.k := ⟨_, rfl⟩
  obtain ⟨pl, hpl⟩ : ∃ S, S = d.ps.length := ⟨_, rfl⟩
  obtain ⟨bl, hbl⟩ : ∃ S, S = d.bd.length := ⟨_, rfl⟩
  rw [← hE, ← hS, ← hkk, ← hpl, ← hbl] at C
  rw [← hS, ← hkk, ← hpl, ← hbl] at c0 c1 c2 c3 HW0
  rw [← hE, ← hS, ← hkk, ← hpl, ← hbl]
  rw [HW0.out] at f0 c0 c1 c2 c3
  clear hW0 k0 bb hE hS hkk hpl hbl hf hG hl hlen hP hB hb
  go_enter Tryz.func102, Tryz.ntmps102
  go_wp2_with fail
  rw [← HW0.out]
  refine C.out.mono ?_
  rintro e W1 ⟨rfl, hk1⟩
  have HK1 := Lib.hid (Kp.trans K0.out hk1)
  clear hk1 c0 c1 c2 c3 f0
  go_wp2_with fail
  go_ret
  exact ⟨by simp, HK1.out⟩
theorem allD_yes {q : XD → Bool} {ds : List XD} {i : Nat} {x : XD} (h : ds[i]? = some x) (hf : q x = false) : ds.all q = false := by
  rw [List.all_eq_false]
  exact ⟨x, List.mem_of_getElem? h, by rw [hf]; simp⟩
theorem allD_no {q : XD → Bool} {ds : List XD} (h : ∀ (i : Nat) (x : XD), ds[i]? = some x → q x = true) : ds.all q = true := by
  rw [List.all_eq_true]
  intro x hx
  obtain ⟨i, hi, rfl⟩ := List.getElem_of_mem hx
  exact h i _ (List.getElem?_eq_getElem hi)
set_option maxRecDepth 100000 in
set_option maxHeartbeats 4000000 in
theorem idxAD_any {f : Nat} {q : XD → Bool} {pre : XD → Prop} (hf : FitsD f q pre) {kb : Nat} {ds : List XD} (hpre : ∀ d ∈ ds, pre d) {v : Value} {W : World} (hG : Glob W) (hD : Dcs W v ds) (hK : Blk W kb 94 #[.func (.func f) #[] #[]]) :
    Calls Tryz.prog 138 #[v, .func (.func 102) #[] #[.pointer (some ⟨kb, 0, none⟩)]] W fun e W' => ∃ r : Int, e = .returned (.int .i64 r) ∧ decide (0 ≤ r) = !(ds.all q) ∧ Kp W W' := by
  have HD := Lib.hid hD
  obtain ⟨⟨ao, cap, rfl, hl64, -⟩, -⟩ := hD
  obtain ⟨len, hlen⟩ : ∃ len, len = ds.length := ⟨_, rfl⟩
  obtain ⟨Q, hQ⟩ : ∃ Q, Q = !(ds.all q) := ⟨_, rfl⟩
  have HQ := Lib.hid hQ
  rw [← hlen] at hl64 HD ⊢
  rw [← hQ]
  have HL := Lib.hid hlen; have HKB := Lib.hid hK; have HG := Lib.hid hG; have HF := Lib.hid hf; have HPRE := Lib.hid hpre
  clear hlen hQ hK hG hf hpre
  go_enter Tryz.func138, Tryz.ntmps138
  go_wp2_with fail
  go_loopw [8] (fun iv wy => ∃ i : Nat, i ≤ len ∧ iv = .int .i64 i ∧ Kp W wy ∧ Hid (∀ (j : Nat) (x : XD), j < i → ds[j]? = some x → q x = true)) (fun iv _ => len - (intOf iv).toNat)
  case atStart => exact ⟨0, Nat.zero_le _, rfl, Kp.refl _, fun j t hj => absurd hj (by omega)⟩
  case round =>
    obtain ⟨i, hi, rfl, hkp, hz⟩ := hrel
    have HKP := Lib.hid hkp
    clear hkp
    by_cases hil : i < len
    · obtain ⟨x, hx⟩ : ∃ x, ds[i]? = some x := ⟨_, List.getElem?_eq_getElem (by have := HL.out; omega)⟩
      have hxok := HD.out.ok x (List.mem_of_getElem? hx)
      obtain ⟨⟨lo', lc', e1, -, hcell⟩, -⟩ := HD.out.kp HKP.out
      simp only [Value.slice.injEq] at e1
      obtain ⟨rfl, -, rfl⟩ := e1
      rcases hcell with h0 | ⟨g, o, rfl, hcell⟩
      · rw [h0] at hx; cases hx
      obtain ⟨pa, pc, ba, bc, k0, k1, k2, k3, hP, hB⟩ := hcell i x hx
      have HX := Lib.hid hx
      have C := Lib.hid (allD1_any HF.out (HPRE.out x (List.mem_of_getElem? hx)) (HKB.out.keep HKP.out) (HG.out.kp' HKP.out) hxok.1 hxok.2 hP hB)
      obtain ⟨S, hS⟩ : ∃ S, S = st x.nm := ⟨_, rfl⟩
      obtain ⟨kk, hkk⟩ : ∃ S, S = x.k := ⟨_, rfl⟩
      obtain ⟨pl, hpl⟩ : ∃ S, S = x.ps.length := ⟨_, rfl⟩
      obtain ⟨bl, hbl⟩ : ∃ S, S = x.bd.length := ⟨_, rfl⟩
      rw [← hS, ← hkk, ← hpl, ← hbl] at C
      rw [← hkk] at k0
      rw [← hS] at k1
      rw [← hpl] at k2
      rw [← hbl] at k3
      clear hS hkk hpl hbl hP hB hcell hxok hx
      cases hb : q x with
      | true =>
        rw [hb] at C
        have HB := Lib.hid hb
        clear hb
        go_wp2_with fail
        refine C.out.mono ?_
        rintro e W2 ⟨rfl, hk2⟩
        have HK2 := Lib.hid (Kp.trans HKP.out hk2)
        clear hk2
        go_wp2_with fail
        go_roundw
        case rel => exact ⟨i + 1, by omega, vint (by omega), HK2.out, fun j d' hj h => by
          by_cases hji : j = i
          · subst hji
            have e := HX.out
            rw [h] at e
            injection e with e
            rw [e]; exact HB.out
          · exact hz.out j d' (by omega) h⟩
        case measure => simp [intOf]; omega
      | false =>
        rw [hb] at C
        have FIN : Hid (decide ((0 : Int) ≤ (i : Int)) = Q) := by
          show _ = _
          rw [HQ.out, allD_yes HX.out hb]
          exact decide_eq_true (by omega)
        clear hb
        go_wp2_with fail
        refine C.out.mono ?_
        rintro e W2 ⟨rfl, hk2⟩
        have HK2 := Lib.hid (Kp.trans HKP.out hk2)
        clear hk2
        go_wp2_with fail
        go_ret
        exact ⟨_, rfl, FIN.out, HK2.out⟩
    · have FIN : Hid (decide ((0 : Int) ≤ -1) = Q) := by
        show _ = _
        rw [HQ.out, allD_no (fun j x h => hz.out j x (by
          have := HL.out
          rcases Nat.lt_or_ge j ds.length with h1 | h1
          · omega
          · rw [List.getElem?_eq_none h1] at h; cases h) h)]
        rfl
      go_wp2_with fail
      go_ret
      exact ⟨_, rfl, FIN.out, HKP.out⟩
theorem containsAD_any {f : Nat} {q : XD → Bool} {pre : XD → Prop} (hf : FitsD f q pre) {kb : Nat} {ds : List XD} (hpre : ∀ d ∈ ds, pre d) {v : Value} {W : World} (hG : Glob W) (hD : Dcs W v ds) (hK : Blk W kb 94 #[.func (.func f) #[] #[]]) :
    Calls Tryz.prog 101 #[v, .func (.func 102) #[] #[.pointer (some ⟨kb, 0, none⟩)]] W fun e W' => e = .returned (.bool (!(ds.all q))) ∧ Kp W W' := by
  have C := Lib.hid (idxAD_any hf hpre hG hD hK)
  clear hD hK hf hG
  obtain ⟨Q, hQ⟩ : ∃ Q, Q = !(ds.all q) := ⟨_, rfl⟩
  rw [← hQ] at C ⊢
  clear hQ
  go_enter Tryz.func101, Tryz.ntmps101
  go_wp2_with fail
  refine C.out.mono ?_
  rintro e W2 ⟨r, rfl, hr, hk⟩
  have HR := Lib.hid hr; have HK := Lib.hid hk
  clear hr hk
  go_wp2_with fail
  go_ret
  rw [← HR.out]
  exact ⟨rfl, HK.out⟩
theorem allDcl_any {f : Nat} {q : XD → Bool} {pre : XD → Prop} (hf : FitsD f q pre) {ds : List XD} (hpre : ∀ d ∈ ds, pre d) {v : Value} {W : World} (hG : Glob W) (hD : Dcs W v ds) :
    Calls Tryz.prog 57 #[v, .func (.func f) #[] #[]] W fun e W' => e = .returned (.bool (ds.all q)) ∧ Kp W W' := by
  obtain ⟨W1, hW1⟩ : ∃ W1, W1 = W.alloc (Obj.cells #[.func (.func f) #[] #[]] 94) := ⟨_, rfl⟩
  have k1 : Kp W W1 := by rw [hW1]; exact kp_alloc W _
  have b1 : Blk W1 W.heap.size 94 #[.func (.func f) #[] #[]] := by rw [hW1]; exact Blk.new _ _ _
  have C := Lib.hid (containsAD_any hf hpre (hG.kp' k1) (hD.kp k1) b1)
  have K1 := Lib.hid k1
  have HW1 := Lib.hid hW1
  clear hD k1 b1 hW1 hf hG
  obtain ⟨Q, hQ⟩ : ∃ Q, Q = ds.all q := ⟨_, rfl⟩
  rw [← hQ] at C ⊢
  clear hQ
  go_enter Tryz.func57, Tryz.ntmps57
  go_wp2_with fail
  rw [← HW1.out]
  refine C.out.mono ?_
  rintro e W2 ⟨rfl, hk2⟩
  have HK2 := Lib.hid (Kp.trans K1.out hk2)
  clear hk2
  go_wp2_with fail
  go_ret
  exact ⟨by simp, HK2.out⟩
end By
end Go.Proofs.YtmflgfojicaecaaGreatDoor

/- Check of a source, seventh part: isSource. Conditions: names have at most a million bytes, rows at most a million items; the package variables that the code reads lie in memory. -/
namespace Go.Proofs.YtmflgfojicaecaaGreatDoor
namespace By
open Go.RowKit WireN LexN SrcN
set_option linter.unusedVariables false
set_option linter.unusedSimpArgs false

/-- A value that reads as a source. -/
structure SrcV (W : World) (iv dv : Value) (f : XS) : Prop where
  pk : Lt f.pk ∧ f.pk.length ≤ 1000000
  im : Sts W iv f.im
  dc : Dcs W dv f.dc
theorem SrcV.kp {W W' : World} {iv dv : Value} {f : XS} (h : SrcV W iv dv f) (hk : Kp W W') : SrcV W' iv dv f := ⟨h.pk, h.im.kp hk, h.dc.kp hk⟩
set_option maxRecDepth 100000 in
set_option maxHeartbeats 2000000 in
theorem isSource_any {f : XS} {iv dv : Value} {w : World} (hG : Glob w) (hS : SrcV w iv dv f) :
    Calls Tryz.prog 26 #[.agg #[.string (st f.pk), iv, dv]] w fun e w' => e = .returned (.bool (srcB f)) ∧ Kp w w' := by
  have HS := Lib.hid hS; have HG := Lib.hid hG
  obtain ⟨⟨ia, ic, rfl, -, -⟩, -⟩ := hS.im
  obtain ⟨⟨da, dcp, rfl, -, -⟩, -⟩ := hS.dc
  obtain ⟨il, hil⟩ : ∃ x, x = f.im.length := ⟨_, rfl⟩
  obtain ⟨dl, hdl⟩ : ∃ x, x = f.dc.length := ⟨_, rfl⟩
  obtain ⟨S, hSS⟩ : ∃ x, x = st f.pk := ⟨_, rfl⟩
  rw [← hil, ← hdl] at HS
  obtain ⟨W0, hW0⟩ : ∃ W0, W0 = w.alloc (Obj.cells #[.string S, .slice ia il ic, .slice da dl dcp] 29) := ⟨_, rfl⟩
  have k0 : Kp w W0 := by rw [hW0]; exact kp_alloc w _
  have bb : Blk W0 w.heap.size 29 #[.string S, .slice ia il ic, .slice da dl dcp] := by rw [hW0]; exact Blk.new _ _ _
  obtain ⟨p1, hp1⟩ : ∃ b, b = isNm f.pk := ⟨_, rfl⟩
  obtain ⟨p2, hp2⟩ : ∃ b, b = f.im.all isNm := ⟨_, rfl⟩
  obtain ⟨p3, hp3⟩ : ∃ b, b = f.dc.all declB := ⟨_, rfl⟩
  have CN : Hid (∀ W, Calls Tryz.prog 55 #[.string S] W fun e w' => e = .returned (.bool p1) ∧ Kp W w') := Lib.hid (fun W => by
    rw [hSS, hp1]
    exact (isName_any HS.out.pk.1 HS.out.pk.2 W).mono fun e w' h => ⟨h.1, by rw [← h.2]; exact Kp.refl _⟩)
  have CA : Hid (∀ W, Kp w W → Calls Tryz.prog 56 #[.slice ia il ic, .func (.func 55) #[] #[]] W fun e w' => e = .returned (.bool p2) ∧ Kp W w') := Lib.hid (fun W hk => by rw [hp2]; exact allNm_any (HS.out.im.kp hk))
  have CD : Hid (∀ W, Kp w W → Calls Tryz.prog 57 #[.slice da dl dcp, .func (.func 58) #[] #[]] W fun e w' => e = .returned (.bool p3) ∧ Kp W w') := Lib.hid (fun W hk => by rw [hp3]; exact allDcl_any fitsDecl (fun _ _ => trivial) (HG.out.kp' hk) (HS.out.dc.kp hk))
  have HD : Hid (srcB f = (p1 && (p2 && p3))) := Lib.hid (by unfold srcB; rw [hp1, hp2, hp3])
  obtain ⟨E, hE⟩ : ∃ b, b = srcB f := ⟨_, rfl⟩
  rw [← hE] at HD ⊢
  rw [← hil, ← hdl, ← hSS]
  have c0 := bb.cell 0 rfl; have c1 := bb.cell 1 rfl; have c2 := bb.cell 2 rfl
  have K0 := Lib.hid k0; have HW0 := Lib.hid hW0
  rw [hW0] at c0 c1 c2
  clear hil hdl hSS hp1 hp2 hp3 hE hW0 k0 bb hS hG
  cases p1 with
  | false =>
    go_enter Tryz.func26, Tryz.ntmps26
    go_wp2_with fail
    rw [← HW0.out]
    refine (CN.out _).mono ?_
    rintro e W1 ⟨rfl, hk1⟩
    have HK1 := Lib.hid (Kp.trans K0.out hk1)
    clear hk1 c0 c1 c2
    go_wp2_with fail
    go_ret
    exact ⟨by rw [HD.out]; simp, HK1.out⟩
  | true =>
    cases p2 with
    | false =>
      go_enter Tryz.func26, Tryz.ntmps26
      go_wp2_with fail
      rw [← HW0.out] at c1 c2 ⊢
      refine (CN.out _).mono ?_
      rintro e W1 ⟨rfl, hk1⟩
      have HK1 := Lib.hid (Kp.trans K0.out hk1)
      have e1 := cell_kept c1 hk1
      clear hk1 c0 c1 c2
      go_wp2_with fail
      refine (CA.out _ HK1.out).mono ?_
      rintro e W2 ⟨rfl, hk2⟩
      have HK2 := Lib.hid (Kp.trans HK1.out hk2)
      clear hk2 e1
      go_wp2_with fail
      go_ret
      exact ⟨by rw [HD.out]; simp, HK2.out⟩
    | true =>
      go_enter Tryz.func26, Tryz.ntmps26
      go_wp2_with fail
      rw [← HW0.out] at c1 c2 ⊢
      refine (CN.out _).mono ?_
      rintro e W1 ⟨rfl, hk1⟩
      have HK1 := Lib.hid (Kp.trans K0.out hk1)
      have e1 := cell_kept c1 hk1; have e2 := cell_kept c2 hk1
      clear hk1 c0 c1 c2
      go_wp2_with fail
      refine (CA.out _ HK1.out).mono ?_
      rintro e W2 ⟨rfl, hk2⟩
      have HK2 := Lib.hid (Kp.trans HK1.out hk2)
      have f2 := cell_kept e2 hk2
      clear hk2 e1 e2
      go_wp2_with fail
      refine (CD.out _ HK2.out).mono ?_
      rintro e W3 ⟨rfl, hk3⟩
      have HK3 := Lib.hid (Kp.trans HK2.out hk3)
      clear hk3 f2
      go_wp2_with fail
      go_ret
      exact ⟨by rw [HD.out]; simp, HK3.out⟩
end By
end Go.Proofs.YtmflgfojicaecaaGreatDoor
