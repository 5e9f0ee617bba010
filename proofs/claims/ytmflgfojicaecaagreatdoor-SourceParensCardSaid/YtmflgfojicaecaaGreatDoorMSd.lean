/- slices.Index over a row of strings. Condition: the row reads as the strings that are named. -/
import Derived.Test.YtmflgfojicaecaaGreatDoorSUseA
namespace Go.Proofs.YtmflgfojicaecaaGreatDoor
namespace By
open Go.RowKit WireN LexN SrcN
set_option linter.unusedVariables false
set_option linter.unusedSimpArgs false

theorem row_cell {W : World} {n : Nat} {T : TypeId} {v : Value} {xs : List Value} (h : W.ownsRow 0 T 1 v n xs) (i : Nat) (u : Value) (hu : xs[i]? = some u) : ∃ g c, v = .slice (some ⟨g, 0, none⟩) n c ∧ W.cell? ⟨g, i, none⟩ = some u := by
  have hi : i < n := by
    have := h.1
    rcases Nat.lt_or_ge i xs.length with h1 | h1
    · omega
    · rw [List.getElem?_eq_none h1] at hu; cases hu
  rcases h.2 with ⟨rfl, h0⟩ | ⟨g, cap, cur, rfl, hb, hg, hnc, hcm, hsz, htake⟩
  · omega
  · refine ⟨g, cap, rfl, ?_⟩
    rw [cell_of_row W g _ _ _ (0, 0) hg, ← Array.getElem?_toList]
    rw [← htake, List.getElem?_take] at hu
    split at hu
    · exact hu
    · cases hu
def idxV (o : Option Nat) : Int := match o with
  | none => -1
  | some i => (i : Nat)
theorem idx_step {T : List Nat} {ns : List (List Nat)} {k : Nat} {x : List Nat} (h : ns[k]? = some x) (j : Nat) : idxOf T (ns.drop k) j = if x = T then some j else idxOf T (ns.drop (k + 1)) (j + 1) := by
  have hk : k < ns.length := by
    rcases Nat.lt_or_ge k ns.length with h1 | h1
    · exact h1
    · rw [List.getElem?_eq_none h1] at h; cases h
  rw [List.drop_eq_getElem_cons hk]
  rw [List.getElem?_eq_getElem hk] at h
  injection h with h
  rw [h]
  rfl
set_option maxRecDepth 100000 in
set_option maxHeartbeats 1000000 in
theorem Index_any {W : World} {v : Value} {ns : List (List Nat)} {T : List Nat} (hrow : W.ownsRow 0 9 1 v ns.length (ns.map fun n => Value.string (st n))) (hT : Lt T) (hns : ∀ n ∈ ns, Lt n) (hl : ns.length ≤ 100000) :
    Calls Tryz.prog 153 #[v, .string (st T)] W fun e W' => e = .returned (.int .i64 (idxV (idxOf T ns 0))) ∧ W = W' := by
  obtain ⟨ao, ac, rfl⟩ := row_open hrow
  obtain ⟨len, hlen⟩ : ∃ len, len = ns.length := ⟨_, rfl⟩
  obtain ⟨V, hV⟩ : ∃ V, V = idxV (idxOf T ns 0) := ⟨_, rfl⟩
  have HROW := Lib.hid hrow; have HT := Lib.hid hT; have HNS := Lib.hid hns; have HV := Lib.hid hV
  rw [← hlen] at HROW hl ⊢
  rw [← hV]
  have HL := Lib.hid hlen
  obtain ⟨S, hS⟩ : ∃ S, S = st T := ⟨_, rfl⟩
  have HS := Lib.hid hS
  rw [← hS]
  clear hrow hT hns hlen hV hS
  go_enter Tryz.func153, Tryz.ntmps153
  go_wp2_with fail
  go_loop [8] (fun i => ∃ k : Nat, k ≤ len ∧ i = .int .i64 k ∧ Hid (idxOf T (ns.drop k) k = idxOf T ns 0)) (fun i => len - (intOf i).toNat)
  case atStart => exact ⟨0, Nat.zero_le _, rfl, rfl⟩
  case round =>
    obtain ⟨k, hk, rfl, hz⟩ := hrel
    by_cases hkl : k < len
    · have hg : ns[k]? = some (ns[k]'(by have := HL.out; omega)) := List.getElem?_eq_getElem _
      obtain ⟨x, ex⟩ : ∃ x, x = (ns[k]'(by have := HL.out; omega)) := ⟨_, rfl⟩
      rw [← ex] at hg
      obtain ⟨g, c, e, hc⟩ := row_cell HROW.out k (.string (st x)) (by rw [List.getElem?_map, hg]; rfl)
      simp only [Value.slice.injEq] at e
      obtain ⟨rfl, -, rfl⟩ := e
      have hx := HNS.out x (List.mem_of_getElem? hg)
      have hq := st_eqb HT.out hx
      rw [← HS.out] at hq
      have HST := Lib.hid (idx_step (T := T) hg k)
      obtain ⟨R, hR⟩ : ∃ R, R = st x := ⟨_, rfl⟩
      rw [← hR] at hc hq
      clear ex hg hx hR
      by_cases hxT : x = T
      · have hqt : (S.toList == R.toList) = true := by rw [hq, hxT]; exact beq_self_eq_true T
        have FIN : Hid ((k : Int) = V) := by
          have h1 := hz.out
          rw [HST.out, if_pos hxT] at h1
          show _ = _
          rw [HV.out, ← h1]
          rfl
        clear hq
        go_wp2_with fail
        go_ret
        exact ⟨ret_int FIN.out, rfl⟩
      · have hqf : (S.toList == R.toList) = false := by rw [hq]; exact beq_eq_false_iff_ne.2 (fun e => hxT e.symm)
        have NXT : Hid (idxOf T (ns.drop (k + 1)) (k + 1) = idxOf T ns 0) := by
          have h1 := hz.out
          rw [HST.out, if_neg hxT] at h1
          exact h1
        clear hq
        go_wp2_with fail
        go_round
        case rel => exact ⟨k + 1, by omega, by go_num, NXT.out⟩
        case measure => simp [intOf]; omega
    · have FIN : Hid ((-1 : Int) = V) := by
        have h1 := hz.out
        have : ns.drop k = [] := List.drop_eq_nil_of_le (by have := HL.out; omega)
        rw [this] at h1
        show _ = _
        rw [HV.out, ← h1]
        rfl
      go_wp2_with fail
      go_ret
      exact ⟨ret_int FIN.out, rfl⟩
end By
end Go.Proofs.YtmflgfojicaecaaGreatDoor

/- The parser's use: a parameter or a call, given what expressions answer. Condition: the parser lies in memory as it is named. -/
namespace Go.Proofs.YtmflgfojicaecaaGreatDoor
namespace By
open Go.RowKit WireN LexN SrcN
set_option linter.unusedVariables false
set_option linter.unusedSimpArgs false

theorem Ints.row {G : Nat → Prop} {W : World} {ao : Option Addr} {ac : Nat} {xs : List Nat} (h : W.ownsRow 0 3 1 (.slice ao xs.length ac) xs.length (xs.map fun x => Value.int .i64 (x : Nat))) (hG : ∀ b, (Value.slice ao xs.length ac).ownBlock = some b → G b) : Ints G W (.slice ao xs.length ac) xs := by
  by_cases hx : xs = []
  · subst hx
    refine ⟨ao, ac, rfl, Nat.zero_le _, .inl rfl⟩
  · rcases h.2 with ⟨e, h0⟩ | ⟨g, cap, cur, e, hb, hg, hnc, hcm, hsz, htake⟩
    · exact absurd (List.length_eq_zero_iff.1 h0) hx
    · simp only [Value.slice.injEq] at e
      obtain ⟨rfl, -, rfl⟩ := e
      refine ⟨_, _, rfl, hnc, .inr ⟨g, 0, rfl, hG g rfl, lt_of_block hg, fun j x hj => ?_⟩⟩
      obtain ⟨g', c', e', hc⟩ := row_cell h j (.int .i64 (x : Nat)) (by rw [List.getElem?_map, hj]; rfl)
      simp only [Value.slice.injEq, Option.some.injEq, Addr.mk.injEq] at e'
      obtain ⟨⟨rfl, -, -⟩, -, -⟩ := e'
      rw [Nat.zero_add]
      exact hc
set_option maxRecDepth 100000 in
set_option maxHeartbeats 4000000 in
theorem use_st {F : Nat → Prop} {g p d n : Nat} {W : World} {s : St} (h : PI F g p W s) (hd : d ≤ 40) {rec' : Nat → P Nat} (sub : Part 132 (rec' (d + 1)) [.int .i64 ((d + 1 : Nat) : Int)]) {r : Out Nat} (hr : use n rec' d s = some r) :
    Calls Tryz.prog 175 #[.pointer (some ⟨p, 0, none⟩), .int .i64 (d : Nat)] W (Ans' F g p vN r W) := by
  obtain ⟨Q, hQ⟩ : ∃ Q, Q = Ans' F g p vN r W := ⟨_, rfl⟩
  rw [← hQ]
  have HQ := Lib.hid hQ
  have H := Lib.hid h; have SUB := Lib.hid sub
  obtain ⟨Wa, hWa⟩ : ∃ Wa, Wa = W.alloc (Obj.cells #[.pointer (some ⟨p, 0, none⟩)] 122) := ⟨_, rfl⟩
  obtain ⟨W0, hW0⟩ : ∃ W0, W0 = Wa.alloc (Obj.cells #[.int .i64 (d : Nat)] 3) := ⟨_, rfl⟩
  have hsa : Wa.heap.size = W.heap.size + 1 := by rw [hWa]; simp
  have hs0 : W0.heap.size = W.heap.size + 2 := by rw [hW0]; simp; omega
  have ka : Kp W Wa := by rw [hWa]; exact kp_alloc W _
  have kb : Kp Wa W0 := by rw [hW0]; exact kp_alloc Wa _
  have K0 : Hid (Kp W W0) := Kp.trans ka kb
  have PB : Hid (Blk W0 W.heap.size 122 #[.pointer (some ⟨p, 0, none⟩)]) := by
    have : Blk Wa W.heap.size 122 #[.pointer (some ⟨p, 0, none⟩)] := by rw [hWa]; exact Blk.new _ _ _
    exact this.keep kb
  have DB : Hid (Blk W0 (W.heap.size + 1) 3 #[.int .i64 (d : Nat)]) := by show Blk _ _ _ _; rw [hW0, ← hsa]; exact Blk.new _ _ _
  have HW0 : Hid (W0 = (W.alloc (Obj.cells #[.pointer (some ⟨p, 0, none⟩)] 122)).alloc (Obj.cells #[.int .i64 (d : Nat)] 3)) := by show _ = _; rw [hW0, hWa]
  have Z0 := Lib.hid hs0
  have MP : Hid (Mine F W W0 W.heap.size) := by show Mine _ _ _ _; exact .inr ⟨Nat.le_refl _, by omega⟩
  have MD : Hid (Mine F W W0 (W.heap.size + 1)) := by show Mine _ _ _ _; exact .inr ⟨Nat.le_succ _, by omega⟩
  have BAD : Hid (∀ a e W', Keep (Mine F W W0) W0 W' → r = .bad a e → Q (pan a e) W') := by
    intro a e W' hk he
    rw [HQ.out, he]
    exact ⟨rfl, (Kp.keep K0.out H.out.dom).trans (hk.mono (fun k hk => .inl hk))⟩
  have c0 := PB.out.cell 0 rfl
  rw [HW0.out] at c0
  clear hQ h sub hWa hW0 hsa hs0 ka kb
  have hr' : bnd name (fun t => fun s => if isW [40] s then bnd (list n (argsS rec' d) []) (fun ys => node t ⟨3, 0, 0, t.2.1, ys⟩) s else if s.lv = false then none else match idxOf t.2.1 s.ps 0 with
    | none => fail t 9 s
    | some i => node t ⟨2, (i : Nat), 0, [], []⟩ s) s = some r := hr
  rcases bnd_some hr' with ⟨a, e, hm, he⟩ | ⟨⟨K, T, NM, AT⟩, s1, hm, hk1⟩
  · have C := Lib.hid (name_st (H.out.fresh K0.out) hm)
    have HE := Lib.hid he
    clear hr hr' hm he
    go_enter Tryz.func175, Tryz.ntmps175
    go_wp2_with fail
    rw [← HW0.out]
    refine C.out.mono ?_
    rintro e1 W1 ⟨rfl, hk⟩
    exact ⟨rfl, BAD.out _ _ _ hk HE.out⟩
  · have C := Lib.hid (name_st (H.out.fresh K0.out) hm)
    have HK1 := Lib.hid hk1
    clear hr hr' hm hk1
    go_enter Tryz.func175, Tryz.ntmps175
    go_wp2_with fail
    rw [← HW0.out]
    clear c0
    refine C.out.mono ?_
    rintro e1 W1 ⟨⟨v, rfl, rfl, hT⟩, hpi, hke⟩
    have PI1 := Lib.hid hpi; have KE1 := Lib.hid hke; have HT := Lib.hid hT
    clear hpi hke hT C
    obtain ⟨W2, hW2⟩ : ∃ W2, W2 = W1.alloc (Obj.cells #[.int .i64 (K : Nat), .string (st T), .int .i64 (NM : Nat), .int .i64 (AT : Nat)] 111) := ⟨_, rfl⟩
    have K2 : Hid (Kp W1 W2) := by show Kp W1 W2; rw [hW2]; exact kp_alloc W1 _
    have TB : Hid (Blk W2 W1.heap.size 111 #[.int .i64 (K : Nat), .string (st T), .int .i64 (NM : Nat), .int .i64 (AT : Nat)]) := by show Blk _ _ _ _; rw [hW2]; exact Blk.new _ _ _
    have hs2 : W2.heap.size = W1.heap.size + 1 := by rw [hW2]; simp
    have Z2 := Lib.hid hs2
    have KE2 := Lib.hid (KE1.out.trans (Kp.keep K2.out PI1.out.dom))
    have c0 := (PB.out.kept KE2.out MP.out).cell 0 rfl
    have HW2 := Lib.hid hW2
    rw [hW2] at c0
    have MT : Hid (Mine (Mine F W W0) W1 W2 W1.heap.size) := by show Mine _ _ _ _; exact .inr ⟨Nat.le_refl _, by omega⟩
    clear hW2 hs2
    have C := Lib.hid (is_st (PI1.out.fresh K2.out) (X := ⟨#[40]⟩) (w := [40]) rfl (lt_mem (by decide)))
    cases hb : isW [40] s1 with
    | true =>
      rw [hb] at C
      have HK2 : Hid (bnd (list n (argsS rec' d) []) (fun ys => node (K, T, NM, AT) ⟨3, 0, 0, T, ys⟩) s1 = some r) := by
        have := HK1.out
        simp only [hb, if_true] at this
        exact this
      clear hb
      go_wp2_with fail
      rw [← HW2.out]
      clear c0
      refine C.out.mono ?_
      intro e W3 hs3
      obtain rfl := hs3.e
      have PI3 := Lib.hid hs3.pi; have KE3 := Lib.hid hs3.kp
      clear hs3 C HK1
      obtain ⟨W4, hW4⟩ : ∃ W4, W4 = W3.alloc (Obj.cells #[.int .i64 3, .int .i64 0, .int .i64 0, .string (st T), .slice none 0 0] 57) := ⟨_, rfl⟩
      have K4 : Hid (Kp W3 W4) := by show Kp W3 W4; rw [hW4]; exact kp_alloc W3 _
      have hs4 : W4.heap.size = W3.heap.size + 1 := by rw [hW4]; simp
      have NB : Hid (Blk W4 W3.heap.size 57 #[.int .i64 3, .int .i64 0, .int .i64 0, .string (st T), .slice none 0 0]) := by show Blk _ _ _ _; rw [hW4]; exact Blk.new _ _ _
      have tb3 := TB.out.kept KE3.out MT.out
      have pb3 := (PB.out.kept KE2.out MP.out).kept KE3.out (.inl MP.out)
      have db3 := (DB.out.kept KE2.out MD.out).kept KE3.out (.inl MD.out)
      have KF4 : Hid (Keep F W W4) := by
        show Keep _ _ _
        exact (Kp.keep K0.out H.out.dom).trans (((KE2.out.trans (KE3.out.mono (fun k hk => .inl hk))).mono (fun k hk => .inl hk)).trans (Kp.keep K4.out (fun k hk => PI3.out.dom k (.inl (.inl hk)))))
      have z1 : W0.heap.size ≤ W1.heap.size := KE1.out.size
      have z2 : W2.heap.size ≤ W3.heap.size := KE3.out.size
      have zz := Z0.out; have zz2 := Z2.out
      have hdF := H.out.dom
      have STAB : Hid (Use1 F p d W3.heap.size W.heap.size (W.heap.size + 1) W1.heap.size K NM AT (st T) (st T) [] (Mine (Mine (Mine F W W0) W1 W2) W3 W4) W4) := by
        show Use1 _ _ _ _ _ _ _ _ _ _ _ _ _ _ _
        refine ⟨⟨none, 0, NB.out, World.ownsRow_nil _ _ _ _, fun b hb => by cases hb⟩, pb3.keep K4.out, db3.keep K4.out, tb3.keep K4.out, ⟨.inr ⟨Nat.le_refl _, by omega⟩, .inl (.inl MP.out), .inl (.inl MD.out), .inl MT.out⟩, ⟨fun hf => ?_, fun hf => ?_, fun hf => ?_, fun hf => ?_⟩, ?_⟩
        · have := hdF _ hf; omega
        · have := hdF _ hf; omega
        · have := hdF _ hf; omega
        · have := hdF _ hf; omega
        · refine ⟨?_, ?_, ?_, ?_, ?_, ?_⟩ <;> omega
      have HIT : Hid (ItemOk F g p 185 #[.pointer (some ⟨W3.heap.size, 0, none⟩), .pointer (some ⟨W.heap.size, 0, none⟩), .pointer (some ⟨W.heap.size + 1, 0, none⟩)] (Use1 F p d W3.heap.size W.heap.size (W.heap.size + 1) W1.heap.size K NM AT (st T) (st T)) (argsS rec' d)) :=
        ⟨fun b G W W' hs hk => hs.keep hk, Tryz.call185, fun b G W s r hFG hpi hst hr => use1_any hd hFG H.out.tok hpi hst SUB.out hr⟩
      have t0 := tb3.cell 0 rfl; have t1 := tb3.cell 1 rfl; have t2 := tb3.cell 2 rfl; have t3 := tb3.cell 3 rfl
      have c0 := (pb3.keep K4.out).cell 0 rfl
      have HW4 := Lib.hid hW4
      rw [hW4] at c0
      clear hW4 hs4 tb3 pb3 db3 z1 z2 zz zz2 hdF
      rcases bnd_some HK2.out with ⟨a, e, hm, he⟩ | ⟨ys, s5, hm, hk5⟩
      · have C := Lib.hid (list_st HIT.out (fun k hk => .inl (.inl (.inl hk))) (PI3.out.fresh K4.out) STAB.out hm)
        have HE := Lib.hid he
        clear hm he
        go_wp2_with fail
        rw [← HW4.out]
        refine C.out.mono ?_
        rintro e1 W5 ⟨rfl, hk⟩
        refine ⟨rfl, ?_⟩
        rw [HQ.out, HE.out]
        exact ⟨rfl, KF4.out.trans hk⟩
      · have C := Lib.hid (list_st HIT.out (fun k hk => .inl (.inl (.inl hk))) (PI3.out.fresh K4.out) STAB.out hm)
        have HK5 := Lib.hid hk5
        clear hm hk5
        go_wp2_with fail
        rw [← HW4.out]
        clear c0 t0 t1 t2 t3
        refine C.out.mono ?_
        rintro e1 W5 ⟨rfl, G5, g1, g2, g3, g4⟩
        obtain ⟨ao, ac, hnb, hrow, hown⟩ := g3.ex
        have C2 := Lib.hid (node_st (F := F) g2 g1 H.out.tok (T := st T) (Ints.row hrow (fun b hb => ⟨(hown b hb).1, (hown b hb).2.1⟩)) HK5.out)
        have n0 := hnb.cell 0 rfl; have n1 := hnb.cell 1 rfl; have n2 := hnb.cell 2 rfl; have n3 := hnb.cell 3 rfl; have n4 := hnb.cell 4 rfl
        have t0 := g3.tbk.cell 0 rfl; have t1 := g3.tbk.cell 1 rfl; have t2 := g3.tbk.cell 2 rfl; have t3 := g3.tbk.cell 3 rfl
        have c0 := g3.pbk.cell 0 rfl
        have KF5 := Lib.hid (KF4.out.trans g4)
        obtain ⟨yl, hyl⟩ : ∃ yl, yl = ys.length := ⟨_, rfl⟩
        rw [← hyl] at n4 C2
        clear g1 g2 g3 g4 hnb hrow hown hyl C
        go_wp2_with fail
        clear n0 n1 n2 n3 n4 t0 t1 t2 t3 c0
        refine C2.out.mono ?_
        intro e6 W6 hq
        have hq2 := hq.mono KF5.out
        cases r with
        | bad a e =>
          obtain ⟨rfl, hk⟩ := hq
          refine ⟨rfl, ?_⟩
          rw [HQ.out]
          exact hq2
        | ok i s6 =>
          obtain ⟨⟨v, rfl, rfl⟩, -, -⟩ := hq
          have F2 : Hid (Q (.returned (.int .i64 (i : Nat))) W6) := by show Q _ _; rw [HQ.out]; exact hq2
          clear hq2
          go_wp2_with fail
          first | exact F2.out | (go_ret3; exact F2.out)
    | false =>
      rw [hb] at C
      have HK2' : (if s1.lv = false then none else match idxOf T s1.ps 0 with
          | none => fail (K, T, NM, AT) 9 s1
          | some i => node (K, T, NM, AT) ⟨2, (i : Nat), 0, [], []⟩ s1) = some r := by
        have := HK1.out
        simp only [hb, Bool.false_eq_true, if_false] at this
        exact this
      by_cases hlv' : s1.lv = false
      · rw [if_pos hlv'] at HK2'; cases HK2'
      rw [if_neg hlv'] at HK2'
      have hlv : s1.lv = true := by simpa using hlv'
      have HK2 := Lib.hid HK2'
      have HLV := Lib.hid hlv
      clear HK2' hlv' hlv
      clear hb
      go_wp2_with fail
      rw [← HW2.out]
      clear c0
      refine C.out.mono ?_
      intro e W3 hs3
      obtain rfl := hs3.e
      have PI3 := Lib.hid hs3.pi; have KE3 := Lib.hid hs3.kp
      clear hs3 C HK1
      have tb3 := TB.out.kept KE3.out MT.out
      have pb3 := (PB.out.kept KE2.out MP.out).kept KE3.out (.inl MP.out)
      have KF3 : Hid (Keep F W W3) := by
        show Keep _ _ _
        exact (Kp.keep K0.out H.out.dom).trans ((KE2.out.trans (KE3.out.mono (fun k hk => .inl hk))).mono (fun k hk => .inl hk))
      obtain ⟨o, rc, pv, bv, vs, hpm⟩ := PI3.out
      obtain ⟨po, pc, rfl⟩ := row_open (hpm.pown HLV.out)
      have t0 := tb3.cell 0 rfl; have t1 := tb3.cell 1 rfl; have t2 := tb3.cell 2 rfl; have t3 := tb3.cell 3 rfl
      have c0 := pb3.cell 0 rfl
      have c1 := hpm.blk.cell 1 rfl
      have IDX : Hid (∀ W4, Kp W3 W4 → Calls Tryz.prog 153 #[.slice po s1.ps.length pc, .string (st T)] W4 fun e W' => e = .returned (.int .i64 (idxV (idxOf T s1.ps 0))) ∧ W4 = W') := fun W4 k4 => Index_any ((hpm.kp k4).pown HLV.out) HT.out.1 (hpm.plt HLV.out) (by have := hpm.pfew HLV.out; omega)
      have TB3 := Lib.hid tb3; have PB3 := Lib.hid pb3
      obtain ⟨pl, hpl⟩ : ∃ pl, pl = s1.ps.length := ⟨_, rfl⟩
      rw [← hpl] at c1 IDX
      clear tb3 pb3 hpm hpl
      go_wp2_with fail
      go_still_tail 6, (by kernel_rfl)
      change wpList _ _ _ _ _ W3.drew
      have KD : Hid (Kp W3 W3.drew) := kp_drew W3
      generalize W3.drew = Wd at KD
      clear c0 c1 t0 t1 t2 t3
      go_wp2_with fail
      refine (IDX.out Wd KD.out).mono ?_
      rintro e1 W4 ⟨rfl, rfl⟩
      have t0 := (TB3.out.keep KD.out).cell 0 rfl; have t1 := (TB3.out.keep KD.out).cell 1 rfl; have t2 := (TB3.out.keep KD.out).cell 2 rfl; have t3 := (TB3.out.keep KD.out).cell 3 rfl
      have c0 := (PB3.out.keep KD.out).cell 0 rfl
      have PI4 := Lib.hid (PI3.out.kp KD.out)
      have KF4 := Lib.hid (KF3.out.trans (Kp.keep KD.out (fun k hk => PI3.out.dom k (.inl (.inl hk)))))
      cases hi : idxOf T s1.ps 0 with
      | none =>
        have FIN : Hid (∀ W5, Kp Wd W5 → Q (pan AT 9) W5) := by
          intro W5 hk5
          have hk := HK2.out
          rw [hi] at hk
          unfold SrcN.fail at hk
          injection hk with hk
          rw [HQ.out, ← hk]
          exact ⟨rfl, KF4.out.trans (Kp.keep hk5 (fun k hk => PI4.out.dom k (.inl (.inl hk))))⟩
        have hv : idxV none = -1 := rfl
        rw [hv]
        clear hi hv
        go_wp2_with fail
        refine (fail_any K NM AT (st T) 9 Wd).mono ?_
        rintro e W5 ⟨rfl, hk⟩
        exact ⟨rfl, FIN.out W5 hk⟩
      | some i =>
        have hk := HK2.out
        rw [hi] at hk
        have C2 := Lib.hid (node_st (F := F) PI4.out (fun k hk => .inl (.inl hk)) H.out.tok (T := st T) (Ints.nil _ _) hk)
        have hv : idxV (some i) = (i : Int) := rfl
        rw [hv]
        clear hi hv hk
        go_wp2_with fail
        clear t0 t1 t2 t3 c0
        refine C2.out.mono ?_
        intro e6 W6 hq
        have hq2 := hq.mono KF4.out
        cases r with
        | bad a e =>
          obtain ⟨rfl, hk⟩ := hq
          refine ⟨rfl, ?_⟩
          rw [HQ.out]
          exact hq2
        | ok i s6 =>
          obtain ⟨⟨v, rfl, rfl⟩, -, -⟩ := hq
          have F2 : Hid (Q (.returned (.int .i64 (i : Nat))) W6) := by show Q _ _; rw [HQ.out]; exact hq2
          clear hq2
          go_wp2_with fail
          first | exact F2.out | (go_ret3; exact F2.out)
end By
end Go.Proofs.YtmflgfojicaecaaGreatDoor
