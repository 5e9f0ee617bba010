/- Check of a source, first part: what it means, in plain definitions; isName; all names of a row. Condition: each string has at most a million bytes. -/
import Derived.Test.YtmflgfojicaecaaGreatDoorMSi
namespace SrcN
open LexN
/-- Any node, well-formed or not. -/
structure XN where
  k : Int
  num : Int
  op : Int
  nm : List Nat
  args : List Int
/-- Any declaration. -/
structure XD where
  k : Int
  nm : List Nat
  ps : List (List Nat)
  bd : List XN
/-- Any source. -/
structure XS where
  pk : List Nat
  im : List (List Nat)
  dc : List XD
def isNm (l : List Nat) : Bool := nameB l && !resv l
/-- The four tests of a node: its number, operator, name and how many arguments it has. -/
def nodeN (n : XN) (ps : Int) : Bool :=
  if n.k = 1 then decide (-9007199254740992 ≤ n.num) && decide (n.num ≤ 9007199254740992)
  else if n.k = 2 then decide (0 ≤ n.num) && decide (n.num < ps)
  else if n.k = 10 then decide (0 ≤ n.num) && decide (n.num < 64)
  else n.num == 0
def nodeO (n : XN) : Bool := if n.k = 4 then decide (1 ≤ n.op) && decide (n.op ≤ 7) else n.op == 0
def nodeM (n : XN) : Bool :=
  if n.k = 3 then isNm n.nm
  else if n.k = 6 ∨ n.k = 7 ∨ n.k = 8 then pathB n.nm
  else if n.k = 9 then nameB n.nm
  else n.nm == []
def nodeA (n : XN) : Bool :=
  if n.k = 3 then true
  else if n.k = 4 then n.args.length == 2
  else if n.k = 5 then n.args.length == 3
  else if n.k = 6 then n.args.length == 1
  else n.args.length == 0
def nodeB (n : XN) (ps : Int) : Bool := decide (1 ≤ n.k) && (decide (n.k ≤ 10) && (nodeN n ps && (nodeO n && (nodeM n && nodeA n))))
/-- Each node takes the last nodes that are no arguments yet. -/
def bodyF (ps : Int) : Nat → List XN → List Int → Option (List Int)
  | _, [], fr => some fr
  | i, n :: r, fr => if nodeB n ps && decide (n.args.length ≤ fr.length) && (fr.drop (fr.length - n.args.length) == n.args) then bodyF ps (i + 1) r (fr.take (fr.length - n.args.length) ++ [(i : Int)]) else none
def bodyB (l : List XN) (ps : Int) : Bool := match bodyF ps 0 l [] with
  | some [_] => true
  | _ => false
def declB (d : XD) : Bool :=
  if d.k = 1 then isNm d.nm && (d.ps.all isNm && bodyB d.bd d.ps.length)
  else if d.k = 2 then isNm d.nm && (decide (d.ps.length = 0) && bodyB d.bd 0)
  else if d.k = 3 then pathB d.nm && (decide (d.ps.length = 0) && bodyB d.bd 0)
  else false
def srcB (f : XS) : Bool := isNm f.pk && (f.im.all isNm && f.dc.all declB)
end SrcN
namespace Go.Proofs.YtmflgfojicaecaaGreatDoor
namespace By
open Go.RowKit WireN LexN SrcN
set_option linter.unusedVariables false
set_option linter.unusedSimpArgs false

/-- A slice that reads as strings, none too long. -/
structure Sts (W : World) (v : Value) (ns : List (List Nat)) : Prop where
  ex : ∃ ao c, v = .slice ao ns.length c ∧ ns.length ≤ 1000000 ∧ (ns = [] ∨ ∃ g o, ao = some ⟨g, o, none⟩ ∧ g < W.heap.size ∧ ∀ j x, ns[j]? = some x → W.cell? ⟨g, o + j, none⟩ = some (.string (st x)))
  ok : ∀ n ∈ ns, Lt n ∧ n.length ≤ 1000000
theorem Sts.kp {W W' : World} {v : Value} {ns : List (List Nat)} (h : Sts W v ns) (hk : Kp W W') : Sts W' v ns := by
  obtain ⟨⟨ao, c, h1, h2, h3⟩, h4⟩ := h
  refine ⟨⟨ao, c, h1, h2, ?_⟩, h4⟩
  rcases h3 with h3 | ⟨g, o, e, hg, hc⟩
  · exact .inl h3
  · exact .inr ⟨g, o, e, Nat.lt_of_lt_of_le hg hk.size, fun j x hx => cell_kept (hc j x hx) hk⟩
theorem isName_any {l : List Nat} (hl : Lt l) (hlen : l.length ≤ 1000000) (w : World) :
    Calls Tryz.prog 55 #[.string (st l)] w fun e w' => e = .returned (.bool (isNm l)) ∧ w = w' := by
  have HN := Lib.hid (Name_any hl hlen w)
  have HR := Lib.hid (reserved_any hl w)
  obtain ⟨S, hS⟩ : ∃ S, S = st l := ⟨_, rfl⟩
  have HV : Hid (isNm l = (nameB l && !resv l)) := Lib.hid rfl
  rw [← hS] at HN HR ⊢
  clear hS hl hlen
  cases h1 : nameB l with
  | false =>
    rw [h1] at HN HV
    clear h1
    go_enter Tryz.func55, Tryz.ntmps55
    go_wp2_with fail
    refine HN.out.mono ?_
    rintro e w' ⟨rfl, rfl⟩
    go_wp2_with fail
    go_ret
    rw [HV.out]
    exact ⟨rfl, rfl⟩
  | true =>
    rw [h1] at HN HV
    clear h1
    obtain ⟨b, hb⟩ : ∃ b, b = resv l := ⟨_, rfl⟩
    rw [← hb] at HR HV
    clear hb
    go_enter Tryz.func55, Tryz.ntmps55
    go_wp2_with fail
    refine HN.out.mono ?_
    rintro e w' ⟨rfl, rfl⟩
    go_wp2_with fail
    refine HR.out.mono ?_
    rintro e w' ⟨rfl, rfl⟩
    go_wp2_with fail
    go_ret
    rw [HV.out]
    exact ⟨rfl, rfl⟩
/-- The closure of all: whether a name is none. -/
theorem allS1_any {w : World} {kb : Nat} {l : List Nat} (hb : Blk w kb 59 #[.func (.func 55) #[] #[]]) (hl : Lt l) (hlen : l.length ≤ 1000000) :
    Calls Tryz.prog 100 #[.string (st l), .pointer (some ⟨kb, 0, none⟩)] w fun e w' => e = .returned (.bool (!isNm l)) ∧ w = w' := by
  have HN := Lib.hid (isName_any hl hlen w)
  have c0 := hb.cell 0 rfl
  have hin := Tryz.call55
  obtain ⟨S, hS⟩ : ∃ S, S = st l := ⟨_, rfl⟩
  obtain ⟨b, hbb⟩ : ∃ b, b = isNm l := ⟨_, rfl⟩
  rw [← hS, ← hbb] at HN ⊢
  clear hS hl hlen hb hbb
  go_enter Tryz.func100, Tryz.ntmps100
  go_wp2_with fail
  refine HN.out.mono ?_
  rintro e w' ⟨rfl, rfl⟩
  go_wp2_with fail
  go_ret
  exact ⟨rfl, rfl⟩
theorem all_yes {ns : List (List Nat)} {i : Nat} {x : List Nat} (h : ns[i]? = some x) (hf : isNm x = false) : ns.all isNm = false := by
  rw [List.all_eq_false]
  exact ⟨x, List.mem_of_getElem? h, by rw [hf]; simp⟩
theorem all_no {ns : List (List Nat)} (h : ∀ (i : Nat) (x : List Nat), ns[i]? = some x → isNm x = true) : ns.all isNm = true := by
  rw [List.all_eq_true]
  intro x hx
  obtain ⟨i, hi, rfl⟩ := List.getElem_of_mem hx
  exact h i _ (List.getElem?_eq_getElem hi)
set_option maxRecDepth 100000 in
set_option maxHeartbeats 2000000 in
theorem idxS_any {kb : Nat} {ns : List (List Nat)} {v : Value} {W : World} (hD : Sts W v ns) (hK : Blk W kb 59 #[.func (.func 55) #[] #[]]) :
    Calls Tryz.prog 137 #[v, .func (.func 100) #[] #[.pointer (some ⟨kb, 0, none⟩)]] W fun e W' => ∃ r : Int, e = .returned (.int .i64 r) ∧ decide (0 ≤ r) = !(ns.all isNm) ∧ W = W' := by
  obtain ⟨⟨ao, cap, rfl, hl64, hcell⟩, hok⟩ := hD
  obtain ⟨len, hlen⟩ : ∃ len, len = ns.length := ⟨_, rfl⟩
  obtain ⟨Q, hQ⟩ : ∃ Q, Q = !(ns.all isNm) := ⟨_, rfl⟩
  have HQ := Lib.hid hQ
  rw [← hlen] at hl64 ⊢
  rw [← hQ]
  have HC := Lib.hid hcell; have HO := Lib.hid hok; have HL := Lib.hid hlen; have HKB := Lib.hid hK
  clear hcell hok hlen hQ hK
  go_enter Tryz.func137, Tryz.ntmps137
  go_wp2_with fail
  go_loopw [8] (fun iv wy => ∃ i : Nat, i ≤ len ∧ iv = .int .i64 i ∧ wy = W ∧ Hid (∀ (j : Nat) (x : List Nat), j < i → ns[j]? = some x → isNm x = true)) (fun iv _ => len - (intOf iv).toNat)
  case atStart => exact ⟨0, Nat.zero_le _, rfl, rfl, fun j t hj => absurd hj (by omega)⟩
  case round =>
    obtain ⟨i, hi, rfl, rfl, hz⟩ := hrel
    by_cases hil : i < len
    · have hd : ns[i]? = some (ns[i]'(by have := HL.out; omega)) := List.getElem?_eq_getElem _
      obtain ⟨x, ex⟩ : ∃ x, x = (ns[i]'(by have := HL.out; omega)) := ⟨_, rfl⟩
      rw [← ex] at hd
      rcases HC.out with h0 | ⟨g, o, rfl, -, hc⟩
      · rw [h0] at hd; cases hd
      have k0 := hc i x hd
      have HDD := Lib.hid hd
      have hxo := HO.out x (List.mem_of_getElem? hd)
      have C := Lib.hid (allS1_any HKB.out hxo.1 hxo.2)
      clear ex hd hc hxo
      obtain ⟨S, hS⟩ : ∃ S, S = st x := ⟨_, rfl⟩
      rw [← hS] at k0 C
      clear hS
      cases hb : isNm x with
      | true =>
        rw [hb] at C
        have HB := Lib.hid hb
        clear hb
        go_wp2_with fail
        refine C.out.mono ?_
        rintro e W2 ⟨rfl, rfl⟩
        go_wp2_with fail
        go_roundw
        case rel => exact ⟨i + 1, by omega, vint (by omega), by first | trivial | rfl, fun j d' hj h => by
          by_cases hji : j = i
          · subst hji
            have e := HDD.out
            rw [h] at e
            injection e with e
            rw [e]; exact HB.out
          · exact hz.out j d' (by omega) h⟩
        case measure => simp [intOf]; omega
      | false =>
        rw [hb] at C
        have FIN : Hid (decide ((0 : Int) ≤ (i : Int)) = Q) := by
          show _ = _
          rw [HQ.out, all_yes HDD.out hb]
          exact decide_eq_true (by omega)
        clear hb
        go_wp2_with fail
        refine C.out.mono ?_
        rintro e W2 ⟨rfl, rfl⟩
        go_wp2_with fail
        go_ret
        exact ⟨_, rfl, FIN.out, rfl⟩
    · have FIN : Hid (decide ((0 : Int) ≤ -1) = Q) := by
        show _ = _
        rw [HQ.out, all_no (fun j x h => hz.out j x (by
          have := HL.out
          rcases Nat.lt_or_ge j ns.length with h1 | h1
          · omega
          · rw [List.getElem?_eq_none h1] at h; cases h) h)]
        rfl
      go_wp2_with fail
      go_ret
      exact ⟨_, rfl, FIN.out, rfl⟩
theorem containsS_any {kb : Nat} {ns : List (List Nat)} {v : Value} {W : World} (hD : Sts W v ns) (hK : Blk W kb 59 #[.func (.func 55) #[] #[]]) :
    Calls Tryz.prog 99 #[v, .func (.func 100) #[] #[.pointer (some ⟨kb, 0, none⟩)]] W fun e W' => e = .returned (.bool (!(ns.all isNm))) ∧ W = W' := by
  have C := Lib.hid (idxS_any hD hK)
  clear hD hK
  obtain ⟨Q, hQ⟩ : ∃ Q, Q = !(ns.all isNm) := ⟨_, rfl⟩
  rw [← hQ] at C ⊢
  clear hQ
  go_enter Tryz.func99, Tryz.ntmps99
  go_wp2_with fail
  refine C.out.mono ?_
  rintro e W2 ⟨r, rfl, hr, rfl⟩
  have HR := Lib.hid hr
  clear hr
  go_wp2_with fail
  go_ret
  rw [← HR.out]
  exact ⟨rfl, rfl⟩
theorem allNm_any {ns : List (List Nat)} {v : Value} {W : World} (hD : Sts W v ns) :
    Calls Tryz.prog 56 #[v, .func (.func 55) #[] #[]] W fun e W' => e = .returned (.bool (ns.all isNm)) ∧ Kp W W' := by
  obtain ⟨W1, hW1⟩ : ∃ W1, W1 = W.alloc (Obj.cells #[.func (.func 55) #[] #[]] 59) := ⟨_, rfl⟩
  have k1 : Kp W W1 := by rw [hW1]; exact kp_alloc W _
  have b1 : Blk W1 W.heap.size 59 #[.func (.func 55) #[] #[]] := by rw [hW1]; exact Blk.new _ _ _
  have C := Lib.hid (containsS_any (hD.kp k1) b1)
  have K1 := Lib.hid k1
  have HW1 := Lib.hid hW1
  clear hD k1 b1 hW1
  obtain ⟨Q, hQ⟩ : ∃ Q, Q = ns.all isNm := ⟨_, rfl⟩
  rw [← hQ] at C ⊢
  clear hQ
  go_enter Tryz.func56, Tryz.ntmps56
  go_wp2_with fail
  rw [← HW1.out]
  refine C.out.mono ?_
  rintro e W2 ⟨rfl, rfl⟩
  go_wp2_with fail
  go_ret
  exact ⟨by simp, K1.out⟩
end By
end Go.Proofs.YtmflgfojicaecaaGreatDoor

/- Check of a source, second part: the fields of a node. Conditions: its name has at most a million bytes; a package variable of the library holds some integer. -/
namespace Go.Proofs.YtmflgfojicaecaaGreatDoor
namespace By
open Go.RowKit WireN LexN SrcN
set_option linter.unusedVariables false
set_option linter.unusedSimpArgs false

theorem nb_beq (a c : Nat) : ((a : Int) == (c : Int)) = (a == c) := Bool.eq_iff_iff.2 (by rw [beq_iff_eq, beq_iff_eq]; omega)
set_option maxRecDepth 100000 in
set_option maxHeartbeats 8000000 in
theorem isNode_any {n : XN} {ps : Int} {ao : Option Addr} {ac : Nat} {w : World} (hG : Glob w) (hl : Lt n.nm) (hlen : n.nm.length ≤ 1000000) (hargs : n.args.length ≤ 1000000) :
    Calls Tryz.prog 139 #[.agg #[.int .i64 n.k, .int .i64 n.num, .int .i64 n.op, .string (st n.nm), .slice ao n.args.length ac], .int .i64 ps] w fun e w' => e = .returned (.bool (nodeB n ps)) ∧ Kp w w' := by
  obtain ⟨m, hm⟩ := hG.mx
  obtain ⟨W0, hW0⟩ : ∃ W0, W0 = w.alloc (Obj.cells #[.int .i64 n.k, .int .i64 n.num, .int .i64 n.op, .string (st n.nm), .slice ao n.args.length ac] 57) := ⟨_, rfl⟩
  have k0 : Kp w W0 := by rw [hW0]; exact kp_alloc w _
  have bb : Blk W0 w.heap.size 57 #[.int .i64 n.k, .int .i64 n.num, .int .i64 n.op, .string (st n.nm), .slice ao n.args.length ac] := by rw [hW0]; exact Blk.new _ _ _
  have c0 := bb.cell 0 rfl; have c1 := bb.cell 1 rfl; have c2 := bb.cell 2 rfl; have c3 := bb.cell 3 rfl; have c4 := bb.cell 4 rfl
  have HM := Lib.hid (fun (w' : World) (hk : Kp w w') => cell_kept hm hk)
  have hq3 := st_u8 hl []
  have HL := Lib.hid hl; have HLEN := Lib.hid hlen; have HARGS := Lib.hid hargs
  obtain ⟨kk, hkk⟩ : ∃ x, x = n.k := ⟨_, rfl⟩
  obtain ⟨num, hnum⟩ : ∃ x, x = n.num := ⟨_, rfl⟩
  obtain ⟨op, hop⟩ : ∃ x, x = n.op := ⟨_, rfl⟩
  obtain ⟨S, hS⟩ : ∃ x, x = st n.nm := ⟨_, rfl⟩
  obtain ⟨L, hL⟩ : ∃ x, x = n.args.length := ⟨_, rfl⟩
  rw [← hS] at hq3
  rw [← hkk, ← hnum, ← hop, ← hS, ← hL] at hW0 bb c0 c1 c2 c3 c4 ⊢
  have BB := Lib.hid bb
  rw [hW0] at c0 c1 c2 c3 c4
  have hLn : L ≤ 1000000 := by omega
  have K0 := Lib.hid k0; have HW0 := Lib.hid hW0
  have HK := Lib.hid hkk; have HNUM := Lib.hid hnum; have HOP := Lib.hid hop; have HS := Lib.hid hS; have HLL := Lib.hid hL
  clear hm hl hlen hargs hkk hnum hop hS hL hW0 k0 bb hG
  obtain ⟨b3, hb3⟩ : ∃ b, b = (n.nm == [].map UInt8.toNat) := ⟨_, rfl⟩
  rw [← hb3] at hq3
  have HB3 : Hid (b3 = (n.nm == [])) := Lib.hid hb3
  clear hb3
  go_enter Tryz.func139, Tryz.ntmps139
  go_wp2_with fail
  go_quiet (fail)
  rw [← HW0.out]
  have k1 := Kp.drewN W0 nq
  have bb := BB.out.keep k1
  have KW : Hid (Kp w (W0.drewN nq)) := Lib.hid (Kp.trans K0.out k1)
  obtain ⟨W1, hW1⟩ : ∃ W, W = W0.drewN nq := ⟨_, rfl⟩
  rw [← hW1] at bb KW ⊢
  obtain ⟨xb, hxb⟩ : ∃ x, x = w.heap.size := ⟨_, rfl⟩
  rw [← hxb] at bb ⊢
  clear c0 c1 c2 c3 c4 hq3 hW1 k1 hxb BB HW0 K0
  have c0 := bb.cell 0 rfl; have c1 := bb.cell 1 rfl; have c2 := bb.cell 2 rfl; have c3 := bb.cell 3 rfl; have c4 := bb.cell 4 rfl
  clear bb
  obtain ⟨b1, hb1⟩ : ∃ b, b = ((num : Int) == 0) := ⟨_, rfl⟩
  obtain ⟨b2, hb2⟩ : ∃ b, b = ((op : Int) == 0) := ⟨_, rfl⟩
  obtain ⟨b4, hb4⟩ : ∃ b, b = ((L : Int) == 0) := ⟨_, rfl⟩
  obtain ⟨a2, ha2⟩ : ∃ b, b = ((L : Int) == 2) := ⟨_, rfl⟩
  obtain ⟨a3, ha3⟩ : ∃ b, b = ((L : Int) == 3) := ⟨_, rfl⟩
  obtain ⟨a1, ha1⟩ : ∃ b, b = ((L : Int) == 1) := ⟨_, rfl⟩
  rw [← hb1, ← hb2, ← hb4]
  have HB1 := Lib.hid hb1; have HB2 := Lib.hid hb2
  have HB4 : Hid (b4 = (n.args.length == 0)) := Lib.hid (by rw [hb4, HLL.out]; exact nb_beq _ 0)
  have HA2 : Hid (a2 = (n.args.length == 2)) := Lib.hid (by rw [ha2, HLL.out]; exact nb_beq _ 2)
  have HA3 : Hid (a3 = (n.args.length == 3)) := Lib.hid (by rw [ha3, HLL.out]; exact nb_beq _ 3)
  have HA1 : Hid (a1 = (n.args.length == 1)) := Lib.hid (by rw [ha1, HLL.out]; exact nb_beq _ 1)
  have q2 := ha2.symm; have q3 := ha3.symm; have q1 := ha1.symm
  clear hb1 hb2 hb4 ha1 ha2 ha3
  by_cases e1 : kk = 1
  · subst e1
    have HKN : Hid (n.k = 1) := Lib.hid HK.out.symm
    have HF : Hid (nodeB n ps = ((decide (-9007199254740992 ≤ num) && decide (num ≤ 9007199254740992)) && (b2 && (b3 && b4)))) := Lib.hid (by simp [nodeB, nodeN, nodeO, nodeM, nodeA, HKN.out, HB1.out, HB2.out, HB3.out, HB4.out, HNUM.out, HOP.out, HA2.out, HA3.out, HA1.out])
    by_cases hA : -9007199254740992 ≤ num
    · by_cases hB : num ≤ 9007199254740992
      · skip
        cases b2 with
        | false =>
          go_wp2_with fail
          go_ret
          exact ⟨by rw [HF.out, (decide_eq_true (by omega) : decide (-9007199254740992 ≤ num) = true), (decide_eq_true (by omega) : decide (num ≤ 9007199254740992) = true)]; simp, by first | exact KW.out | exact Kp.trans KW.out (Kp.drewN _ _)⟩
        | true =>
          cases b3 with
          | false =>
            go_wp2_with fail
            go_ret
            exact ⟨by rw [HF.out, (decide_eq_true (by omega) : decide (-9007199254740992 ≤ num) = true), (decide_eq_true (by omega) : decide (num ≤ 9007199254740992) = true)]; simp, by first | exact KW.out | exact Kp.trans KW.out (Kp.drewN _ _)⟩
          | true =>
            cases b4 with
            | false =>
              go_wp2_with fail
              go_ret
              exact ⟨by rw [HF.out, (decide_eq_true (by omega) : decide (-9007199254740992 ≤ num) = true), (decide_eq_true (by omega) : decide (num ≤ 9007199254740992) = true)]; simp, by first | exact KW.out | exact Kp.trans KW.out (Kp.drewN _ _)⟩
            | true =>
              go_wp2_with fail
              go_ret
              exact ⟨by rw [HF.out, (decide_eq_true (by omega) : decide (-9007199254740992 ≤ num) = true), (decide_eq_true (by omega) : decide (num ≤ 9007199254740992) = true)]; simp, by first | exact KW.out | exact Kp.trans KW.out (Kp.drewN _ _)⟩
      · skip
        go_wp2_with fail
        go_ret
        exact ⟨by rw [HF.out, (decide_eq_true (by omega) : decide (-9007199254740992 ≤ num) = true), (decide_eq_false (by omega) : decide (num ≤ 9007199254740992) = false)]; simp, by first | exact KW.out | exact Kp.trans KW.out (Kp.drewN _ _)⟩
    · skip
      go_wp2_with fail
      go_ret
      exact ⟨by rw [HF.out, (decide_eq_false (by omega) : decide (-9007199254740992 ≤ num) = false)]; simp, by first | exact KW.out | exact Kp.trans KW.out (Kp.drewN _ _)⟩
  have n1 : (kk == 1) = false := beq_eq_false_iff_ne.2 e1
  by_cases e2 : kk = 2
  · subst e2
    have HKN : Hid (n.k = 2) := Lib.hid HK.out.symm
    have HF : Hid (nodeB n ps = ((decide (0 ≤ num) && decide (num < ps)) && (b2 && (b3 && b4)))) := Lib.hid (by simp [nodeB, nodeN, nodeO, nodeM, nodeA, HKN.out, HB1.out, HB2.out, HB3.out, HB4.out, HNUM.out, HOP.out, HA2.out, HA3.out, HA1.out])
    by_cases hA : 0 ≤ num
    · by_cases hB : num < ps
      · skip
        cases b2 with
        | false =>
          go_wp2_with fail
          go_ret
          exact ⟨by rw [HF.out, (decide_eq_true (by omega) : decide (0 ≤ num) = true), (decide_eq_true (by omega) : decide (num < ps) = true)]; simp, by first | exact KW.out | exact Kp.trans KW.out (Kp.drewN _ _)⟩
        | true =>
          cases b3 with
          | false =>
            go_wp2_with fail
            go_ret
            exact ⟨by rw [HF.out, (decide_eq_true (by omega) : decide (0 ≤ num) = true), (decide_eq_true (by omega) : decide (num < ps) = true)]; simp, by first | exact KW.out | exact Kp.trans KW.out (Kp.drewN _ _)⟩
          | true =>
            cases b4 with
            | false =>
              go_wp2_with fail
              go_ret
              exact ⟨by rw [HF.out, (decide_eq_true (by omega) : decide (0 ≤ num) = true), (decide_eq_true (by omega) : decide (num < ps) = true)]; simp, by first | exact KW.out | exact Kp.trans KW.out (Kp.drewN _ _)⟩
            | true =>
              go_wp2_with fail
              go_ret
              exact ⟨by rw [HF.out, (decide_eq_true (by omega) : decide (0 ≤ num) = true), (decide_eq_true (by omega) : decide (num < ps) = true)]; simp, by first | exact KW.out | exact Kp.trans KW.out (Kp.drewN _ _)⟩
      · skip
        go_wp2_with fail
        go_ret
        exact ⟨by rw [HF.out, (decide_eq_true (by omega) : decide (0 ≤ num) = true), (decide_eq_false (by omega) : decide (num < ps) = false)]; simp, by first | exact KW.out | exact Kp.trans KW.out (Kp.drewN _ _)⟩
    · skip
      go_wp2_with fail
      go_ret
      exact ⟨by rw [HF.out, (decide_eq_false (by omega) : decide (0 ≤ num) = false)]; simp, by first | exact KW.out | exact Kp.trans KW.out (Kp.drewN _ _)⟩
  have n2 : (kk == 2) = false := beq_eq_false_iff_ne.2 e2
  by_cases e3 : kk = 3
  · subst e3
    have HKN : Hid (n.k = 3) := Lib.hid HK.out.symm
    obtain ⟨x3, hx3⟩ : ∃ x, x = isNm n.nm := ⟨_, rfl⟩
    have HX3 := Lib.hid hx3
    have C : Hid (∀ W, Kp w W → Calls Tryz.prog 55 #[.string S] W fun e w' => e = .returned (.bool x3) ∧ Kp W w') := Lib.hid (fun W hk => by rw [hx3, HS.out]; exact (isName_any HL.out HLEN.out W).mono fun e w' h => ⟨h.1, by rw [← h.2]; exact Kp.refl _⟩)
    clear hx3
    have HF : Hid (nodeB n ps = (b1 && (b2 && (x3 && true)))) := Lib.hid (by simp [nodeB, nodeN, nodeO, nodeM, nodeA, HKN.out, HB1.out, HB2.out, HB3.out, HB4.out, HNUM.out, HOP.out, HA2.out, HA3.out, HA1.out, HX3.out])
    cases b1 with
    | false =>
      go_wp2_with fail
      refine (C.out _ (by assumption)).mono ?_
      rintro e W2 ⟨rfl, hk2⟩
      have KW := Lib.hid (Kp.trans KW.out hk2)
      clear hk2
      go_wp2_with fail
      go_ret
      exact ⟨by rw [HF.out]; simp, by first | exact KW.out | exact Kp.trans KW.out (Kp.drewN _ _)⟩
    | true =>
      cases b2 with
      | false =>
        go_wp2_with fail
        refine (C.out _ (by assumption)).mono ?_
        rintro e W2 ⟨rfl, hk2⟩
        have KW := Lib.hid (Kp.trans KW.out hk2)
        clear hk2
        go_wp2_with fail
        go_ret
        exact ⟨by rw [HF.out]; simp, by first | exact KW.out | exact Kp.trans KW.out (Kp.drewN _ _)⟩
      | true =>
        cases x3 with
        | false =>
          go_wp2_with fail
          refine (C.out _ (by assumption)).mono ?_
          rintro e W2 ⟨rfl, hk2⟩
          have KW := Lib.hid (Kp.trans KW.out hk2)
          clear hk2
          go_wp2_with fail
          go_ret
          exact ⟨by rw [HF.out]; simp, by first | exact KW.out | exact Kp.trans KW.out (Kp.drewN _ _)⟩
        | true =>
          go_wp2_with fail
          refine (C.out _ (by assumption)).mono ?_
          rintro e W2 ⟨rfl, hk2⟩
          have KW := Lib.hid (Kp.trans KW.out hk2)
          clear hk2
          go_wp2_with fail
          go_ret
          exact ⟨by rw [HF.out]; simp, by first | exact KW.out | exact Kp.trans KW.out (Kp.drewN _ _)⟩
  have n3 : (kk == 3) = false := beq_eq_false_iff_ne.2 e3
  by_cases e4 : kk = 4
  · subst e4
    have HKN : Hid (n.k = 4) := Lib.hid HK.out.symm
    have HF : Hid (nodeB n ps = (b1 && ((decide (1 ≤ op) && decide (op ≤ 7)) && (b3 && a2)))) := Lib.hid (by simp [nodeB, nodeN, nodeO, nodeM, nodeA, HKN.out, HB1.out, HB2.out, HB3.out, HB4.out, HNUM.out, HOP.out, HA2.out, HA3.out, HA1.out])
    cases b1 with
    | false =>
      by_cases hA : 1 ≤ op
      · by_cases hB : op ≤ 7
        · skip
          go_wp2_with fail
          go_quiet (fail)
          go_wp2_with fail
          go_ret
          exact ⟨by rw [HF.out, (decide_eq_true (by omega) : decide (1 ≤ op) = true), (decide_eq_true (by omega) : decide (op ≤ 7) = true)]; simp, by first | exact KW.out | exact Kp.trans KW.out (Kp.drewN _ _)⟩
        · skip
          go_wp2_with fail
          go_quiet (fail)
          go_wp2_with fail
          go_ret
          exact ⟨by rw [HF.out, (decide_eq_true (by omega) : decide (1 ≤ op) = true), (decide_eq_false (by omega) : decide (op ≤ 7) = false)]; simp, by first | exact KW.out | exact Kp.trans KW.out (Kp.drewN _ _)⟩
      · skip
        have hd : decide (1 ≤ op) = false := decide_eq_false (by omega)
        clear hA
        go_wp2_with fail
        go_quiet (fail)
        go_wp2_with fail
        go_ret
        exact ⟨by rw [HF.out, hd]; simp, by first | exact KW.out | exact Kp.trans KW.out (Kp.drewN _ _)⟩
    | true =>
      by_cases hA : 1 ≤ op
      · by_cases hB : op ≤ 7
        · skip
          cases b3 with
          | false =>
            go_wp2_with fail
            go_quiet (fail)
            go_wp2_with fail
            go_ret
            exact ⟨by rw [HF.out, (decide_eq_true (by omega) : decide (1 ≤ op) = true), (decide_eq_true (by omega) : decide (op ≤ 7) = true)]; simp, by first | exact KW.out | exact Kp.trans KW.out (Kp.drewN _ _)⟩
          | true =>
            cases a2 with
            | false =>
              go_wp2_with fail
              go_quiet (fail)
              go_wp2_with fail
              go_ret
              exact ⟨by rw [HF.out, (decide_eq_true (by omega) : decide (1 ≤ op) = true), (decide_eq_true (by omega) : decide (op ≤ 7) = true)]; simp, by first | exact KW.out | exact Kp.trans KW.out (Kp.drewN _ _)⟩
            | true =>
              go_wp2_with fail
              go_quiet (fail)
              go_wp2_with fail
              go_ret
              exact ⟨by rw [HF.out, (decide_eq_true (by omega) : decide (1 ≤ op) = true), (decide_eq_true (by omega) : decide (op ≤ 7) = true)]; simp, by first | exact KW.out | exact Kp.trans KW.out (Kp.drewN _ _)⟩
        · skip
          go_wp2_with fail
          go_quiet (fail)
          go_wp2_with fail
          go_ret
          exact ⟨by rw [HF.out, (decide_eq_true (by omega) : decide (1 ≤ op) = true), (decide_eq_false (by omega) : decide (op ≤ 7) = false)]; simp, by first | exact KW.out | exact Kp.trans KW.out (Kp.drewN _ _)⟩
      · skip
        have hd : decide (1 ≤ op) = false := decide_eq_false (by omega)
        clear hA
        go_wp2_with fail
        go_quiet (fail)
        go_wp2_with fail
        go_ret
        exact ⟨by rw [HF.out, hd]; simp, by first | exact KW.out | exact Kp.trans KW.out (Kp.drewN _ _)⟩
  have n4 : (kk == 4) = false := beq_eq_false_iff_ne.2 e4
  by_cases e5 : kk = 5
  · subst e5
    have HKN : Hid (n.k = 5) := Lib.hid HK.out.symm
    have HF : Hid (nodeB n ps = (b1 && (b2 && (b3 && a3)))) := Lib.hid (by simp [nodeB, nodeN, nodeO, nodeM, nodeA, HKN.out, HB1.out, HB2.out, HB3.out, HB4.out, HNUM.out, HOP.out, HA2.out, HA3.out, HA1.out])
    cases b1 with
    | false =>
      go_wp2_with fail
      go_ret
      exact ⟨by rw [HF.out]; simp, by first | exact KW.out | exact Kp.trans KW.out (Kp.drewN _ _)⟩
    | true =>
      cases b2 with
      | false =>
        go_wp2_with fail
        go_ret
        exact ⟨by rw [HF.out]; simp, by first | exact KW.out | exact Kp.trans KW.out (Kp.drewN _ _)⟩
      | true =>
        cases b3 with
        | false =>
          go_wp2_with fail
          go_ret
          exact ⟨by rw [HF.out]; simp, by first | exact KW.out | exact Kp.trans KW.out (Kp.drewN _ _)⟩
        | true =>
          cases a3 with
          | false =>
            go_wp2_with fail
            go_ret
            exact ⟨by rw [HF.out]; simp, by first | exact KW.out | exact Kp.trans KW.out (Kp.drewN _ _)⟩
          | true =>
            go_wp2_with fail
            go_ret
            exact ⟨by rw [HF.out]; simp, by first | exact KW.out | exact Kp.trans KW.out (Kp.drewN _ _)⟩
  have n5 : (kk == 5) = false := beq_eq_false_iff_ne.2 e5
  by_cases e6 : kk = 6
  · subst e6
    have HKN : Hid (n.k = 6) := Lib.hid HK.out.symm
    obtain ⟨x3, hx3⟩ : ∃ x, x = pathB n.nm := ⟨_, rfl⟩
    have HX3 := Lib.hid hx3
    have C : Hid (∀ W, Kp w W → Calls Tryz.prog 104 #[.string S] W fun e w' => e = .returned (.bool x3) ∧ Kp W w') := Lib.hid (fun W hk => by rw [hx3, HS.out]; exact Path_any HL.out HLEN.out (HM.out W hk))
    clear hx3
    have HF : Hid (nodeB n ps = (b1 && (b2 && (x3 && a1)))) := Lib.hid (by simp [nodeB, nodeN, nodeO, nodeM, nodeA, HKN.out, HB1.out, HB2.out, HB3.out, HB4.out, HNUM.out, HOP.out, HA2.out, HA3.out, HA1.out, HX3.out])
    cases b1 with
    | false =>
      go_wp2_with fail
      go_region_held3 (fun w' => w'.cell? ⟨xb, 3, none⟩ = some (.string S) ∧ w'.cell? ⟨xb, 4, none⟩ = some (.slice ao L ac))
        (first
          | exact ⟨cell_kept c3 hk2, cell_kept c4 hk2⟩
          | exact ⟨c3, c4⟩
          | fail "no keep")
        (first
          | (go_at_call 104; refine (C.out _ (Kp.trans KW.out (kp_drew _))).mono ?_; rintro e W2 ⟨rfl, hk2'⟩; have hk2 := Kp.trans (kp_drew W1) hk2')
          | fail "no arm")
      have KW := Lib.hid (Kp.trans KW.out hk2)
      go_wp2_with fail
      go_ret
      exact ⟨by rw [HF.out]; simp, by first | exact KW.out | exact Kp.trans KW.out (Kp.drewN _ _)⟩
    | true =>
      cases b2 with
      | false =>
        go_wp2_with fail
        go_region_held3 (fun w' => w'.cell? ⟨xb, 3, none⟩ = some (.string S) ∧ w'.cell? ⟨xb, 4, none⟩ = some (.slice ao L ac))
          (first
            | exact ⟨cell_kept c3 hk2, cell_kept c4 hk2⟩
            | exact ⟨c3, c4⟩
            | fail "no keep")
          (first
            | (go_at_call 104; refine (C.out _ (Kp.trans KW.out (kp_drew _))).mono ?_; rintro e W2 ⟨rfl, hk2'⟩; have hk2 := Kp.trans (kp_drew W1) hk2')
            | fail "no arm")
        have KW := Lib.hid (Kp.trans KW.out hk2)
        go_wp2_with fail
        go_ret
        exact ⟨by rw [HF.out]; simp, by first | exact KW.out | exact Kp.trans KW.out (Kp.drewN _ _)⟩
      | true =>
        cases x3 with
        | false =>
          go_wp2_with fail
          go_region_held3 (fun w' => w'.cell? ⟨xb, 3, none⟩ = some (.string S) ∧ w'.cell? ⟨xb, 4, none⟩ = some (.slice ao L ac))
            (first
              | exact ⟨cell_kept c3 hk2, cell_kept c4 hk2⟩
              | exact ⟨c3, c4⟩
              | fail "no keep")
            (first
              | (go_at_call 104; refine (C.out _ (Kp.trans KW.out (kp_drew _))).mono ?_; rintro e W2 ⟨rfl, hk2'⟩; have hk2 := Kp.trans (kp_drew W1) hk2')
              | fail "no arm")
          have KW := Lib.hid (Kp.trans KW.out hk2)
          go_wp2_with fail
          go_ret
          exact ⟨by rw [HF.out]; simp, by first | exact KW.out | exact Kp.trans KW.out (Kp.drewN _ _)⟩
        | true =>
          cases a1 with
          | false =>
            go_wp2_with fail
            go_region_held3 (fun w' => w'.cell? ⟨xb, 3, none⟩ = some (.string S) ∧ w'.cell? ⟨xb, 4, none⟩ = some (.slice ao L ac))
              (first
                | exact ⟨cell_kept c3 hk2, cell_kept c4 hk2⟩
                | exact ⟨c3, c4⟩
                | fail "no keep")
              (first
                | (go_at_call 104; refine (C.out _ (Kp.trans KW.out (kp_drew _))).mono ?_; rintro e W2 ⟨rfl, hk2'⟩; have hk2 := Kp.trans (kp_drew W1) hk2')
                | fail "no arm")
            have KW := Lib.hid (Kp.trans KW.out hk2)
            go_wp2_with fail
            go_ret
            exact ⟨by rw [HF.out]; simp, by first | exact KW.out | exact Kp.trans KW.out (Kp.drewN _ _)⟩
          | true =>
            go_wp2_with fail
            go_region_held3 (fun w' => w'.cell? ⟨xb, 3, none⟩ = some (.string S) ∧ w'.cell? ⟨xb, 4, none⟩ = some (.slice ao L ac))
              (first
                | exact ⟨cell_kept c3 hk2, cell_kept c4 hk2⟩
                | exact ⟨c3, c4⟩
                | fail "no keep")
              (first
                | (go_at_call 104; refine (C.out _ (Kp.trans KW.out (kp_drew _))).mono ?_; rintro e W2 ⟨rfl, hk2'⟩; have hk2 := Kp.trans (kp_drew W1) hk2')
                | fail "no arm")
            have KW := Lib.hid (Kp.trans KW.out hk2)
            go_wp2_with fail
            go_ret
            exact ⟨by rw [HF.out]; simp, by first | exact KW.out | exact Kp.trans KW.out (Kp.drewN _ _)⟩
  have n6 : (kk == 6) = false := beq_eq_false_iff_ne.2 e6
  by_cases e7 : kk = 7
  · subst e7
    have HKN : Hid (n.k = 7) := Lib.hid HK.out.symm
    obtain ⟨x3, hx3⟩ : ∃ x, x = pathB n.nm := ⟨_, rfl⟩
    have HX3 := Lib.hid hx3
    have C : Hid (∀ W, Kp w W → Calls Tryz.prog 104 #[.string S] W fun e w' => e = .returned (.bool x3) ∧ Kp W w') := Lib.hid (fun W hk => by rw [hx3, HS.out]; exact Path_any HL.out HLEN.out (HM.out W hk))
    clear hx3
    have HF : Hid (nodeB n ps = (b1 && (b2 && (x3 && b4)))) := Lib.hid (by simp [nodeB, nodeN, nodeO, nodeM, nodeA, HKN.out, HB1.out, HB2.out, HB3.out, HB4.out, HNUM.out, HOP.out, HA2.out, HA3.out, HA1.out, HX3.out])
    cases b1 with
    | false =>
      go_wp2_with fail
      refine (C.out _ (by assumption)).mono ?_
      rintro e W2 ⟨rfl, hk2⟩
      have KW := Lib.hid (Kp.trans KW.out hk2)
      clear hk2
      go_wp2_with fail
      go_ret
      exact ⟨by rw [HF.out]; simp, by first | exact KW.out | exact Kp.trans KW.out (Kp.drewN _ _)⟩
    | true =>
      cases b2 with
      | false =>
        go_wp2_with fail
        refine (C.out _ (by assumption)).mono ?_
        rintro e W2 ⟨rfl, hk2⟩
        have KW := Lib.hid (Kp.trans KW.out hk2)
        clear hk2
        go_wp2_with fail
        go_ret
        exact ⟨by rw [HF.out]; simp, by first | exact KW.out | exact Kp.trans KW.out (Kp.drewN _ _)⟩
      | true =>
        cases x3 with
        | false =>
          go_wp2_with fail
          refine (C.out _ (by assumption)).mono ?_
          rintro e W2 ⟨rfl, hk2⟩
          have KW := Lib.hid (Kp.trans KW.out hk2)
          clear hk2
          go_wp2_with fail
          go_ret
          exact ⟨by rw [HF.out]; simp, by first | exact KW.out | exact Kp.trans KW.out (Kp.drewN _ _)⟩
        | true =>
          cases b4 with
          | false =>
            go_wp2_with fail
            refine (C.out _ (by assumption)).mono ?_
            rintro e W2 ⟨rfl, hk2⟩
            have KW := Lib.hid (Kp.trans KW.out hk2)
            clear hk2
            go_wp2_with fail
            go_ret
            exact ⟨by rw [HF.out]; simp, by first | exact KW.out | exact Kp.trans KW.out (Kp.drewN _ _)⟩
          | true =>
            go_wp2_with fail
            refine (C.out _ (by assumption)).mono ?_
            rintro e W2 ⟨rfl, hk2⟩
            have KW := Lib.hid (Kp.trans KW.out hk2)
            clear hk2
            go_wp2_with fail
            go_ret
            exact ⟨by rw [HF.out]; simp, by first | exact KW.out | exact Kp.trans KW.out (Kp.drewN _ _)⟩
  have n7 : (kk == 7) = false := beq_eq_false_iff_ne.2 e7
  by_cases e8 : kk = 8
  · subst e8
    have HKN : Hid (n.k = 8) := Lib.hid HK.out.symm
    obtain ⟨x3, hx3⟩ : ∃ x, x = pathB n.nm := ⟨_, rfl⟩
    have HX3 := Lib.hid hx3
    have C : Hid (∀ W, Kp w W → Calls Tryz.prog 104 #[.string S] W fun e w' => e = .returned (.bool x3) ∧ Kp W w') := Lib.hid (fun W hk => by rw [hx3, HS.out]; exact Path_any HL.out HLEN.out (HM.out W hk))
    clear hx3
    have HF : Hid (nodeB n ps = (b1 && (b2 && (x3 && b4)))) := Lib.hid (by simp [nodeB, nodeN, nodeO, nodeM, nodeA, HKN.out, HB1.out, HB2.out, HB3.out, HB4.out, HNUM.out, HOP.out, HA2.out, HA3.out, HA1.out, HX3.out])
    cases b1 with
    | false =>
      go_wp2_with fail
      refine (C.out _ (by assumption)).mono ?_
      rintro e W2 ⟨rfl, hk2⟩
      have KW := Lib.hid (Kp.trans KW.out hk2)
      clear hk2
      go_wp2_with fail
      go_ret
      exact ⟨by rw [HF.out]; simp, by first | exact KW.out | exact Kp.trans KW.out (Kp.drewN _ _)⟩
    | true =>
      cases b2 with
      | false =>
        go_wp2_with fail
        refine (C.out _ (by assumption)).mono ?_
        rintro e W2 ⟨rfl, hk2⟩
        have KW := Lib.hid (Kp.trans KW.out hk2)
        clear hk2
        go_wp2_with fail
        go_ret
        exact ⟨by rw [HF.out]; simp, by first | exact KW.out | exact Kp.trans KW.out (Kp.drewN _ _)⟩
      | true =>
        cases x3 with
        | false =>
          go_wp2_with fail
          refine (C.out _ (by assumption)).mono ?_
          rintro e W2 ⟨rfl, hk2⟩
          have KW := Lib.hid (Kp.trans KW.out hk2)
          clear hk2
          go_wp2_with fail
          go_ret
          exact ⟨by rw [HF.out]; simp, by first | exact KW.out | exact Kp.trans KW.out (Kp.drewN _ _)⟩
        | true =>
          cases b4 with
          | false =>
            go_wp2_with fail
            refine (C.out _ (by assumption)).mono ?_
            rintro e W2 ⟨rfl, hk2⟩
            have KW := Lib.hid (Kp.trans KW.out hk2)
            clear hk2
            go_wp2_with fail
            go_ret
            exact ⟨by rw [HF.out]; simp, by first | exact KW.out | exact Kp.trans KW.out (Kp.drewN _ _)⟩
          | true =>
            go_wp2_with fail
            refine (C.out _ (by assumption)).mono ?_
            rintro e W2 ⟨rfl, hk2⟩
            have KW := Lib.hid (Kp.trans KW.out hk2)
            clear hk2
            go_wp2_with fail
            go_ret
            exact ⟨by rw [HF.out]; simp, by first | exact KW.out | exact Kp.trans KW.out (Kp.drewN _ _)⟩
  have n8 : (kk == 8) = false := beq_eq_false_iff_ne.2 e8
  by_cases e9 : kk = 9
  · subst e9
    have HKN : Hid (n.k = 9) := Lib.hid HK.out.symm
    obtain ⟨x3, hx3⟩ : ∃ x, x = nameB n.nm := ⟨_, rfl⟩
    have HX3 := Lib.hid hx3
    have C : Hid (∀ W, Kp w W → Calls Tryz.prog 97 #[.string S] W fun e w' => e = .returned (.bool x3) ∧ Kp W w') := Lib.hid (fun W hk => by rw [hx3, HS.out]; exact (Name_any HL.out HLEN.out W).mono fun e w' h => ⟨h.1, by rw [← h.2]; exact Kp.refl _⟩)
    clear hx3
    have HF : Hid (nodeB n ps = (b1 && (b2 && (x3 && b4)))) := Lib.hid (by simp [nodeB, nodeN, nodeO, nodeM, nodeA, HKN.out, HB1.out, HB2.out, HB3.out, HB4.out, HNUM.out, HOP.out, HA2.out, HA3.out, HA1.out, HX3.out])
    cases b1 with
    | false =>
      go_wp2_with fail
      refine (C.out _ (by assumption)).mono ?_
      rintro e W2 ⟨rfl, hk2⟩
      have KW := Lib.hid (Kp.trans KW.out hk2)
      clear hk2
      go_wp2_with fail
      go_ret
      exact ⟨by rw [HF.out]; simp, by first | exact KW.out | exact Kp.trans KW.out (Kp.drewN _ _)⟩
    | true =>
      cases b2 with
      | false =>
        go_wp2_with fail
        refine (C.out _ (by assumption)).mono ?_
        rintro e W2 ⟨rfl, hk2⟩
        have KW := Lib.hid (Kp.trans KW.out hk2)
        clear hk2
        go_wp2_with fail
        go_ret
        exact ⟨by rw [HF.out]; simp, by first | exact KW.out | exact Kp.trans KW.out (Kp.drewN _ _)⟩
      | true =>
        cases x3 with
        | false =>
          go_wp2_with fail
          refine (C.out _ (by assumption)).mono ?_
          rintro e W2 ⟨rfl, hk2⟩
          have KW := Lib.hid (Kp.trans KW.out hk2)
          clear hk2
          go_wp2_with fail
          go_ret
          exact ⟨by rw [HF.out]; simp, by first | exact KW.out | exact Kp.trans KW.out (Kp.drewN _ _)⟩
        | true =>
          cases b4 with
          | false =>
            go_wp2_with fail
            refine (C.out _ (by assumption)).mono ?_
            rintro e W2 ⟨rfl, hk2⟩
            have KW := Lib.hid (Kp.trans KW.out hk2)
            clear hk2
            go_wp2_with fail
            go_ret
            exact ⟨by rw [HF.out]; simp, by first | exact KW.out | exact Kp.trans KW.out (Kp.drewN _ _)⟩
          | true =>
            go_wp2_with fail
            refine (C.out _ (by assumption)).mono ?_
            rintro e W2 ⟨rfl, hk2⟩
            have KW := Lib.hid (Kp.trans KW.out hk2)
            clear hk2
            go_wp2_with fail
            go_ret
            exact ⟨by rw [HF.out]; simp, by first | exact KW.out | exact Kp.trans KW.out (Kp.drewN _ _)⟩
  have n9 : (kk == 9) = false := beq_eq_false_iff_ne.2 e9
  by_cases e10 : kk = 10
  · subst e10
    have HKN : Hid (n.k = 10) := Lib.hid HK.out.symm
    have HF : Hid (nodeB n ps = ((decide (0 ≤ num) && decide (num < 64)) && (b2 && (b3 && b4)))) := Lib.hid (by simp [nodeB, nodeN, nodeO, nodeM, nodeA, HKN.out, HB1.out, HB2.out, HB3.out, HB4.out, HNUM.out, HOP.out, HA2.out, HA3.out, HA1.out])
    by_cases hA : 0 ≤ num
    · by_cases hB : num < 64
      · skip
        cases b2 with
        | false =>
          go_wp2_with fail
          go_ret
          exact ⟨by rw [HF.out, (decide_eq_true (by omega) : decide (0 ≤ num) = true), (decide_eq_true (by omega) : decide (num < 64) = true)]; simp, by first | exact KW.out | exact Kp.trans KW.out (Kp.drewN _ _)⟩
        | true =>
          cases b3 with
          | false =>
            go_wp2_with fail
            go_ret
            exact ⟨by rw [HF.out, (decide_eq_true (by omega) : decide (0 ≤ num) = true), (decide_eq_true (by omega) : decide (num < 64) = true)]; simp, by first | exact KW.out | exact Kp.trans KW.out (Kp.drewN _ _)⟩
          | true =>
            cases b4 with
            | false =>
              go_wp2_with fail
              go_ret
              exact ⟨by rw [HF.out, (decide_eq_true (by omega) : decide (0 ≤ num) = true), (decide_eq_true (by omega) : decide (num < 64) = true)]; simp, by first | exact KW.out | exact Kp.trans KW.out (Kp.drewN _ _)⟩
            | true =>
              go_wp2_with fail
              go_ret
              exact ⟨by rw [HF.out, (decide_eq_true (by omega) : decide (0 ≤ num) = true), (decide_eq_true (by omega) : decide (num < 64) = true)]; simp, by first | exact KW.out | exact Kp.trans KW.out (Kp.drewN _ _)⟩
      · skip
        go_wp2_with fail
        go_ret
        exact ⟨by rw [HF.out, (decide_eq_true (by omega) : decide (0 ≤ num) = true), (decide_eq_false (by omega) : decide (num < 64) = false)]; simp, by first | exact KW.out | exact Kp.trans KW.out (Kp.drewN _ _)⟩
    · skip
      go_wp2_with fail
      go_ret
      exact ⟨by rw [HF.out, (decide_eq_false (by omega) : decide (0 ≤ num) = false)]; simp, by first | exact KW.out | exact Kp.trans KW.out (Kp.drewN _ _)⟩
  have n10 : (kk == 10) = false := beq_eq_false_iff_ne.2 e10
  have HF : Hid (nodeB n ps = false) := Lib.hid (by
    unfold nodeB
    rcases (by have := HK.out; omega : n.k < 1 ∨ 10 < n.k) with h | h
    · rw [decide_eq_false (by omega : ¬ (1 ≤ n.k))]; rfl
    · rw [decide_eq_false (by omega : ¬ (n.k ≤ 10))]; simp)
  go_wp2_with fail
  go_ret
  exact ⟨by rw [HF.out]; simp, KW.out⟩
end By
end Go.Proofs.YtmflgfojicaecaaGreatDoor
