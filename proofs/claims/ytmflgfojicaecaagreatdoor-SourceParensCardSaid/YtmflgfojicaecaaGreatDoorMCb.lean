/- Check of a source, third part: rows of integers, their equality, the call's own row of integers. No condition but the length. -/
import Derived.Test.YtmflgfojicaecaaGreatDoorMCa
namespace Go.Proofs.YtmflgfojicaecaaGreatDoor
namespace By
open Go.RowKit WireN LexN SrcN
set_option linter.unusedVariables false
set_option linter.unusedSimpArgs false

/-- A slice that reads as integers. -/
structure Is (W : World) (v : Value) (xs : List Int) : Prop where
  ex : ∃ ao c, v = .slice ao xs.length c ∧ xs.length ≤ 1000000 ∧ (xs = [] ∨ ∃ g o, ao = some ⟨g, o, none⟩ ∧ g < W.heap.size ∧ ∀ j x, xs[j]? = some x → W.cell? ⟨g, o + j, none⟩ = some (.int .i64 x))
theorem Is.kp {W W' : World} {v : Value} {xs : List Int} (h : Is W v xs) (hk : Kp W W') : Is W' v xs := by
  obtain ⟨ao, c, h1, h2, h3⟩ := h
  refine ⟨ao, c, h1, h2, ?_⟩
  rcases h3 with h3 | ⟨g, o, e, hg, hc⟩
  · exact .inl h3
  · exact .inr ⟨g, o, e, Nat.lt_of_lt_of_le hg hk.size, fun j x hx => cell_kept (hc j x hx) hk⟩
theorem Is.cell {W : World} {ao : Option Addr} {n c : Nat} {xs : List Int} (h : Is W (.slice ao n c) xs) {j : Nat} (hj : j < xs.length) : ∃ g o, ao = some ⟨g, o, none⟩ ∧ ∀ j x, xs[j]? = some x → W.cell? ⟨g, o + j, none⟩ = some (.int .i64 x) := by
  obtain ⟨ao', c', h1, h2, h3⟩ := h
  simp only [Value.slice.injEq] at h1
  obtain ⟨rfl, -, -⟩ := h1
  rcases h3 with h3 | ⟨g, o, e, hg, hc⟩
  · rw [h3] at hj; simp at hj
  · exact ⟨g, o, e, hc⟩
theorem Is.few {W : World} {v : Value} {xs : List Int} (h : Is W v xs) : xs.length ≤ 1000000 := by
  obtain ⟨_, _, _, h2, _⟩ := h; exact h2
theorem take_snoc {xs : List Int} {i : Nat} {x : Int} (h : xs[i]? = some x) : xs.take (i + 1) = xs.take i ++ [x] := by
  rw [List.take_add_one, h]; rfl
set_option maxRecDepth 100000 in
set_option maxHeartbeats 2000000 in
theorem EqualI_any {va vb : Value} {xs ys : List Int} {w : World} (ha : Is w va xs) (hb : Is w vb ys) :
    Calls Tryz.prog 107 #[va, vb] w fun e w' => e = .returned (.bool (xs == ys)) ∧ Kp w w' := by
  have HA := Lib.hid ha; have HB := Lib.hid hb
  obtain ⟨ao, ac, rfl, hxl, -⟩ := ha
  obtain ⟨bo, bc, rfl, hyl, -⟩ := hb
  obtain ⟨n, hn⟩ : ∃ n, n = xs.length := ⟨_, rfl⟩
  obtain ⟨m, hm⟩ : ∃ m, m = ys.length := ⟨_, rfl⟩
  rw [← hn] at hxl HA ⊢
  rw [← hm] at hyl HB ⊢
  have HN := Lib.hid hn; have HM := Lib.hid hm
  clear hn hm
  by_cases hnm : n = m
  · subst hnm
    have HTE : Hid (∀ i : Nat, n ≤ i → xs.take i = ys.take i → (xs == ys) = true) := Lib.hid (fun i hi h => by
      rw [List.take_of_length_le (by have := HN.out; omega), List.take_of_length_le (by have := HM.out; omega)] at h
      rw [h]; exact beq_self_eq_true ys)
    have HNE : Hid (∀ (i : Nat) (x y : Int), xs[i]? = some x → ys[i]? = some y → x ≠ y → (xs == ys) = false) := Lib.hid (fun i x y h1 h2 h3 => beq_eq_false_iff_ne.2 (fun e => by
      rw [e, h2] at h1; injection h1 with h1; exact h3 h1.symm))
    obtain ⟨E, hE⟩ : ∃ E, E = (xs == ys) := ⟨_, rfl⟩
    rw [← hE] at HTE HNE ⊢
    clear hE
    go_enter Tryz.func107, Tryz.ntmps107
    go_wp2_with fail
    go_loopw [5, 13] (fun kv iv wy => ∃ i : Nat, i ≤ n ∧ iv = .int .i64 i ∧ Kp w wy ∧ Hid (xs.take i = ys.take i)) (fun _ iv _ => n - (intOf iv).toNat)
    case atStart => exact ⟨0, Nat.zero_le _, rfl, Kp.refl _, rfl⟩
    case round =>
      obtain ⟨i, hi, rfl, hkp, hz⟩ := hrel
      have HKP := Lib.hid hkp; have HZ := Lib.hid hz
      clear hkp hz
      by_cases hil : i < n
      · obtain ⟨x, hx⟩ : ∃ x, xs[i]? = some x := ⟨_, List.getElem?_eq_getElem (by have := HN.out; omega)⟩
        obtain ⟨y, hy⟩ : ∃ y, ys[i]? = some y := ⟨_, List.getElem?_eq_getElem (by have := HM.out; omega)⟩
        obtain ⟨g, o, rfl, hc⟩ := (HA.out.kp HKP.out).cell (j := i) (by have := HN.out; omega)
        obtain ⟨g2, o2, rfl, hd⟩ := (HB.out.kp HKP.out).cell (j := i) (by have := HM.out; omega)
        have k0 := hc i x hx
        have k1 := hd i y hy
        have HX := Lib.hid hx; have HY := Lib.hid hy
        clear hc hd hx hy
        by_cases hxy : x = y
        · subst hxy
          have hne : (x != x) = false := by simp
          go_wp2_with fail
          go_quiet (fail)
          go_wp2_with fail
          go_roundw
          case rel => exact ⟨i + 1, by omega, vint (by omega), Kp.trans HKP.out (Kp.drewN _ _), by show _ = _; rw [take_snoc HX.out, take_snoc HY.out, HZ.out.out]⟩
          case measure => simp [intOf]; omega
        · have hne : (x != y) = true := by simp [hxy]
          have FIN : Hid (E = false) := Lib.hid (HNE.out i x y HX.out HY.out hxy)
          go_wp2_with fail
          go_quiet (fail)
          go_wp2_with fail
          go_ret
          exact ⟨by rw [FIN.out]; simp, Kp.trans HKP.out (Kp.drewN _ _)⟩
      · have FIN : Hid (E = true) := Lib.hid (HTE.out i (by omega) HZ.out)
        go_wp2_with fail
        go_ret
        exact ⟨by rw [FIN.out]; simp, HKP.out⟩
  · have FIN : Hid ((xs == ys) = false) := Lib.hid (beq_eq_false_iff_ne.2 (fun e => hnm (by rw [HN.out, HM.out, e])))
    have hne : ((n : Int) == (m : Int)) = false := beq_eq_false_iff_ne.2 (by omega)
    have hne2 : ((n : Int) != (m : Int)) = true := by rw [bne, hne]; rfl
    go_enter Tryz.func107, Tryz.ntmps107
    go_wp2_with fail
    go_ret
    exact ⟨by rw [FIN.out]; simp, Kp.refl _⟩
theorem infoInt : (Tryz.prog.info? 3).map (fun i => (i.zero, i.size, i.bytes)) = some (some (.int .i64 0), 1, 8) := by kernel_rfl
def icells (xs : List Int) : List Value := xs.map (fun x => Value.int .i64 x)
/-- The call's own row of integers. -/
structure IRow (w W : World) (v : Value) (xs : List Int) : Prop where
  own : W.ownsRow w.heap.size 3 1 v xs.length (icells xs)
  kp : Kp w W
theorem IRow.nil (w : World) : IRow w w (.slice none 0 0) [] := ⟨World.ownsRow_nil _ _ _ _, Kp.refl _⟩
theorem IRow.keep {w W W' : World} {v : Value} {xs : List Int} (h : IRow w W v xs) (hk : Kp W W') : IRow w W' v xs :=
  ⟨own_keep h.own (fun b hb => hk.block b (h.own.lt b hb).2), Kp.trans h.kp hk⟩
/-- A beginning of the row. -/
theorem IRow.cut {w W : World} {ao : Option Addr} {n c : Nat} {xs : List Int} (h : IRow w W (.slice ao n c) xs) {k : Nat} (hk : k ≤ xs.length) : IRow w W (.slice ao k c) (xs.take k) := by
  refine ⟨⟨by simp [icells], ?_⟩, h.kp⟩
  have hl : (xs.take k).length = k := by rw [List.length_take]; omega
  rw [hl]
  rcases h.own.2 with ⟨e, h0⟩ | ⟨g, cap, cur, e, hb, hg, hnc, hcm, hsz, htake⟩
  · simp only [Value.slice.injEq] at e
    obtain ⟨rfl, -, rfl⟩ := e
    have : k = 0 := by omega
    subst this
    exact .inl ⟨rfl, rfl⟩
  · simp only [Value.slice.injEq] at e
    obtain ⟨rfl, -, rfl⟩ := e
    refine .inr ⟨g, c, cur, rfl, hb, hg, by omega, hcm, hsz, ?_⟩
    rw [Nat.mul_one] at htake ⊢
    rw [icells, List.map_take]
    rw [← show icells xs = xs.map (fun x => Value.int .i64 x) from rfl, ← htake, List.take_take, Nat.min_eq_left hk]
theorem IRow.is {w W : World} {v : Value} {xs : List Int} (h : IRow w W v xs) (hl : xs.length ≤ 1000000) : Is W v xs := by
  rcases h.own.2 with ⟨e, h0⟩ | ⟨g, cap, cur, e, hb, hg, hnc, hcm, hsz, htake⟩
  · have hx := List.length_eq_zero_iff.1 h0
    subst hx
    exact ⟨none, 0, e, by simp, .inl rfl⟩
  · refine ⟨_, _, e, hl, .inr ⟨g, 0, rfl, lt_of_block hg, fun j x hx => ?_⟩⟩
    rw [Nat.zero_add, cell_of_row W g _ _ _ (0, 0) hg, ← Array.getElem?_toList]
    rw [Nat.mul_one] at htake
    have hj : j < xs.length := by
      rcases Nat.lt_or_ge j xs.length with h1 | h1
      · exact h1
      · rw [List.getElem?_eq_none h1] at hx; cases hx
    have h2 : (icells xs)[j]? = some (.int .i64 x) := by unfold icells; rw [List.getElem?_map, hx]; rfl
    rw [← htake, List.getElem?_take, if_pos hj] at h2
    exact h2
theorem wpList_int {w wx : World} {ops : Array Oper} {rest : List Oper} {o : Oper} {a : Act} {Q : Exit → Act → World → Prop} (hgd : o.guard = none) (s x : Operand)
    (ho : o.op = .call { callee := .builtin .append, args := #[s, x], argTypes := #[22, 22] })
    (v : Value) (ts : List Int) (hs : a.eval s = v) (hown : IRow w wx v ts) (t : Int) (g : Nat) (hx : a.eval x = .slice (some ⟨g, 0, none⟩) 1 1)
    (hc : Blk wx g 3 #[.int .i64 t]) (hn : ts.length ≤ 1000000)
    (h : ∀ v' w', IRow w w' v' (ts ++ [t]) → wpList Tryz.prog ops Q rest (a.put o.dst v') w') : wpList Tryz.prog ops Q (o :: rest) a wx := by
  obtain ⟨i, hi, hz, hsize, hby⟩ := info_parts infoInt
  refine wpList_append_own_at (P := Tryz.prog) wx hgd s x _ ho w.heap.size _ i _ 1 8 Tryz.underlying22 hi hz hsize hby rfl (by omega) v ts.length (icells ts) hs hown.own ⟨g, 0, none⟩ 1 1 [.int .i64 t] hx rfl ?_ ?_ (by unfold maxLen; omega) (by omega) hown.kp.size ?_
  · intro j u hu
    rw [Addr.add_lit]
    refine hc.cell (0 + j) ?_
    rw [Nat.zero_add]
    simpa using hu
  · intro u hu
    simp only [List.mem_cons, List.not_mem_nil, or_false] at hu
    subst hu
    rfl
  · intro v' w' h1 h2 h3 h4
    refine h v' w' ⟨?_, ?_⟩
    · rw [List.length_append, List.length_singleton]
      have e : icells (ts ++ [t]) = icells ts ++ [.int .i64 t] := by simp [icells]
      rw [e]; exact h1
    · exact Below.grown hown.kp h2 hown.kp.size (fun k hk => (hown.own.lt k hk).1)
end By
end Go.Proofs.YtmflgfojicaecaaGreatDoor

/- Check of a source, fourth part: whether nodes are an expression in the right order. Conditions: each name has at most a million bytes, each row at most a million items; a package variable of the library holds some integer. -/
namespace Go.Proofs.YtmflgfojicaecaaGreatDoor
namespace By
open Go.RowKit WireN LexN SrcN
set_option linter.unusedVariables false
set_option linter.unusedSimpArgs false

theorem Glob.kp' {w w' : World} (h : Glob w) (hk : Kp w w') : Glob w' :=
  ⟨by obtain ⟨m, hm⟩ := h.mx; exact ⟨m, cell_kept hm hk⟩, fun i v hv => cell_kept (h.op i v hv) hk⟩
/-- The cells of a node. -/
structure NdAt (W : World) (g o : Nat) (n : XN) : Prop where
  ex : ∃ aa ac, W.cell? ⟨g, o, none⟩ = some (.int .i64 n.k) ∧ W.cell? ⟨g, o + 1, none⟩ = some (.int .i64 n.num) ∧ W.cell? ⟨g, o + 2, none⟩ = some (.int .i64 n.op) ∧ W.cell? ⟨g, o + 3, none⟩ = some (.string (st n.nm)) ∧ W.cell? ⟨g, o + 4, none⟩ = some (.slice aa n.args.length ac) ∧ Is W (.slice aa n.args.length ac) n.args
/-- A slice that reads as nodes. -/
structure Nds (W : World) (v : Value) (ns : List XN) : Prop where
  ex : ∃ ao c, v = .slice ao ns.length c ∧ ns.length ≤ 1000000 ∧ (ns = [] ∨ ∃ g o, ao = some ⟨g, o, none⟩ ∧ ∀ j n, ns[j]? = some n → NdAt W g (o + j * 5) n)
  ok : ∀ n ∈ ns, Lt n.nm ∧ n.nm.length ≤ 1000000
theorem NdAt.kp {W W' : World} {g o : Nat} {n : XN} (h : NdAt W g o n) (hk : Kp W W') : NdAt W' g o n := by
  obtain ⟨aa, ac, h0, h1, h2, h3, h4, h5⟩ := h
  exact ⟨aa, ac, cell_kept h0 hk, cell_kept h1 hk, cell_kept h2 hk, cell_kept h3 hk, cell_kept h4 hk, h5.kp hk⟩
theorem Nds.kp {W W' : World} {v : Value} {ns : List XN} (h : Nds W v ns) (hk : Kp W W') : Nds W' v ns := by
  obtain ⟨⟨ao, c, h1, h2, h3⟩, h4⟩ := h
  refine ⟨⟨ao, c, h1, h2, ?_⟩, h4⟩
  rcases h3 with h3 | ⟨g, o, e, hc⟩
  · exact .inl h3
  · exact .inr ⟨g, o, e, fun j n hn => (hc j n hn).kp hk⟩
theorem body_step {ps : Int} {l : List XN} {i : Nat} {n : XN} {fr : List Int} (h : l[i]? = some n) : bodyF ps i (l.drop i) fr = if nodeB n ps && decide (n.args.length ≤ fr.length) && (fr.drop (fr.length - n.args.length) == n.args) then bodyF ps (i + 1) (l.drop (i + 1)) (fr.take (fr.length - n.args.length) ++ [(i : Int)]) else none := by
  obtain ⟨hi, rfl⟩ := List.getElem?_eq_some_iff.1 h
  rw [List.drop_eq_getElem_cons hi]
  rfl
theorem body_end {ps : Int} {l : List XN} {i : Nat} {fr : List Int} (h : bodyF ps 0 l [] = bodyF ps i (l.drop i) fr) (hi : l.length ≤ i) : bodyB l ps = (fr.length == 1) := by
  rw [List.drop_eq_nil_of_le hi] at h
  unfold bodyB
  rw [h]
  unfold bodyF
  match fr with
  | [] => rfl
  | [_] => rfl
  | _ :: _ :: _ => simp
theorem body_none {ps : Int} {l : List XN} (h : bodyF ps 0 l [] = none) : bodyB l ps = false := by
  unfold bodyB; rw [h]
/-- An operation that its guard passes over. -/
theorem step_skip {w : World} {ops : Array Oper} {o : Oper} {a : Act} {K : Act → World → Prop} {Q : Exit → Act → World → Prop} {E : Prop} (hw : Region.wanted o (yielded ops a.tmps) = false) (h : E) :
    if Region.wanted o (yielded ops a.tmps) = true then Oper.wp Tryz.prog o a w K Q else E := by
  rw [if_neg (by rw [hw]; simp)]
  exact h
theorem elemI : Tryz.prog.elem 22 = 3 := by kernel_rfl
theorem sizeI (w : World) : (sizeOf (Tryz.prog.elem 22)).run Tryz.prog w = .ok 1 w := by
  rw [elemI]
  kernel_rfl
theorem undI : Tryz.prog.underlying 22 = some (.slice (Tryz.prog.elem 22)) := by rw [elemI]; exact Tryz.underlying22
theorem sli_from {w W : World} {ao : Option Addr} {n c : Nat} {xs : List Int} (h : IRow w W (.slice ao n c) xs) (hl : xs.length ≤ 1000000) {i : Nat} (hi : i ≤ xs.length) :
    ∃ v, (∀ w, (Instr.slice 22 (.slice ao n c) (some (.int .i64 (i : Int))) none none).run Tryz.prog w = .ok v w) ∧ Is W v (xs.drop i) := by
  obtain ⟨ao', c', e, -, hc⟩ := h.is hl
  have hcap : xs.length ≤ c := by
    rcases h.own.2 with ⟨e, h0⟩ | ⟨g, cap, cur, e, hb, hg, hnc, hcm, hsz, htake⟩
    · omega
    · simp only [Value.slice.injEq] at e; omega
  simp only [Value.slice.injEq] at e
  obtain ⟨rfl, rfl, rfl⟩ := e
  refine ⟨sliced ao i xs.length c 1, fun w => by rw [run_slice_l w 22 ao _ c undI .i64 (i : Int) (by omega) (by omega), sizeI, Int.toNat_natCast]; rfl, ?_⟩
  unfold sliced
  have hl2 : (xs.drop i).length = xs.length - i := List.length_drop
  refine ⟨_, _, by rw [hl2], by omega, ?_⟩
  rcases Nat.lt_or_ge i xs.length with h1 | h1
  · rcases hc with h0 | ⟨g, o, rfl, hg, hcell⟩
    · rw [h0] at h1; simp at h1
    · refine .inr ⟨g, o + i, ?_, hg, fun j x hx => ?_⟩
      · rw [if_neg (by omega), Nat.mul_one]; simp [Addr.add]
      · rw [List.getElem?_drop] at hx
        rw [Nat.add_assoc]; exact hcell (i + j) x hx
  · exact .inl (List.drop_eq_nil_of_le h1)
theorem sli_to {w W : World} {ao : Option Addr} {n c : Nat} {xs : List Int} (h : IRow w W (.slice ao n c) xs) {k : Nat} (hk : k ≤ xs.length) (w' : World) :
    (Instr.slice 22 (.slice ao n c) none (some (.int .i64 (k : Int))) none).run Tryz.prog w' = .ok (.slice ao k c) w' := by
  have hcap : xs.length ≤ c ∧ (ao = none ∨ ∃ g, ao = some ⟨g, 0, none⟩) := by
    rcases h.own.2 with ⟨e, h0⟩ | ⟨g, cap, cur, e, hb, hg, hnc, hcm, hsz, htake⟩
    · simp only [Value.slice.injEq] at e; exact ⟨by omega, .inl e.1⟩
    · simp only [Value.slice.injEq] at e; exact ⟨by omega, .inr ⟨g, e.1⟩⟩
  have h1 : (Instr.slice 22 (.slice ao n c) none (some (.int .i64 (k : Int))) none).run Tryz.prog w' = .ok (sliced ao 0 k c 1) w' := by
    rw [run_slice_h w' 22 ao n c undI .i64 (k : Int) (by omega) (by omega), sizeI, Int.toNat_natCast]
    rfl
  rw [h1]
  unfold sliced
  rcases hcap.2 with rfl | ⟨g, rfl⟩
  · simp
  · simp [Addr.add]
set_option maxRecDepth 100000 in
set_option maxHeartbeats 8000000 in
theorem isBody_any {v : Value} {l : List XN} {ps : Int} {w : World} (hG : Glob w) (hN : Nds w v l) :
    Calls Tryz.prog 103 #[v, .int .i64 ps] w fun e w' => e = .returned (.bool (bodyB l ps)) ∧ Kp w w' := by
  have HN0 := Lib.hid hN; have HG := Lib.hid hG
  obtain ⟨⟨lo, lc, rfl, hll, -⟩, -⟩ := hN
  obtain ⟨n, hn⟩ : ∃ n, n = l.length := ⟨_, rfl⟩
  rw [← hn] at hll HN0 ⊢
  have HLN := Lib.hid hn
  clear hn hG
  have HEND : Hid (∀ (i : Nat) (fr : List Int), bodyF ps 0 l [] = bodyF ps i (l.drop i) fr → n ≤ i → bodyB l ps = ((fr.length : Int) == ((1 : Nat) : Int))) := Lib.hid (fun i fr h hi => by rw [nb_beq]; exact body_end h (by have := HLN.out; omega))
  have HNO : Hid (bodyF ps 0 l [] = none → bodyB l ps = false) := Lib.hid body_none
  obtain ⟨E, hE⟩ : ∃ E, E = bodyB l ps := ⟨_, rfl⟩
  rw [← hE] at HEND HNO ⊢
  clear hE
  have HB0 : Hid (Hid (bodyF ps 0 l [] = bodyF ps 0 (l.drop 0) [])) := Lib.hid (Lib.hid rfl)
  go_enter Tryz.func103, Tryz.ntmps103
  go_wp2_with fail
  go_loopw [5, 11] (fun fv iv wy => ∃ (i : Nat) (fr : List Int) (fo : Option Addr) (fc : Nat), i ≤ n ∧ iv = .int .i64 i ∧ fv = .slice fo fr.length fc ∧ fr.length ≤ i ∧ Hid (IRow w wy (.slice fo fr.length fc) fr) ∧ Hid (bodyF ps 0 l [] = bodyF ps i (l.drop i) fr)) (fun _ iv _ => n - (intOf iv).toNat)
  case atStart => exact ⟨0, [], none, 0, Nat.zero_le _, rfl, rfl, Nat.le_refl _, Lib.hid (IRow.nil w), HB0.out⟩
  case round =>
    obtain ⟨i, fr, fo, fc, hi, rfl, rfl, hfi, HROW, HEQ⟩ := hrel
    obtain ⟨fl, hfl⟩ : ∃ fl, fl = fr.length := ⟨_, rfl⟩
    rw [← hfl] at hfi HROW ⊢
    have HFL := Lib.hid hfl
    clear hfl
    rename World => wy
    by_cases hin : i < n
    · obtain ⟨x, hx⟩ : ∃ x, l[i]? = some x := ⟨_, List.getElem?_eq_getElem (by have := HLN.out; omega)⟩
      have hxok := HN0.out.ok x (List.mem_of_getElem? hx)
      obtain ⟨⟨lo', lc', e1, -, hcell⟩, -⟩ := HN0.out.kp HROW.out.kp
      simp only [Value.slice.injEq] at e1
      obtain ⟨rfl, -, rfl⟩ := e1
      rcases hcell with h0 | ⟨g, o, rfl, hcell⟩
      · rw [h0] at hx; cases hx
      obtain ⟨aa, ac, k0, k1, k2, k3, k4, hIs⟩ := hcell i x hx
      have HSTEP : Hid (bodyF ps 0 l [] = _) := Lib.hid (HEQ.out.trans (body_step hx))
      clear hcell hx
      obtain ⟨al, hal⟩ : ∃ al, al = x.args.length := ⟨_, rfl⟩
      have hal1 : al ≤ 1000000 := by rw [hal]; exact hIs.few
      obtain ⟨xk, hxk⟩ : ∃ y, y = x.k := ⟨_, rfl⟩
      obtain ⟨xnum, hxnum⟩ : ∃ y, y = x.num := ⟨_, rfl⟩
      obtain ⟨xop, hxop⟩ : ∃ y, y = x.op := ⟨_, rfl⟩
      obtain ⟨S, hS⟩ : ∃ S, S = st x.nm := ⟨_, rfl⟩
      have C1 : Hid (∀ W, Kp w W → Calls Tryz.prog 139 #[.agg #[.int .i64 xk, .int .i64 xnum, .int .i64 xop, .string S, .slice aa al ac], .int .i64 ps] W fun e w' => e = .returned (.bool (nodeB x ps)) ∧ Kp W w') := Lib.hid (fun W hk => by
        rw [hxk, hxnum, hxop, hS, hal]
        exact isNode_any (HG.out.kp' hk) hxok.1 hxok.2 hIs.few)
      rw [← hal] at HSTEP k4 hIs
      rw [← hxk] at k0
      rw [← hxnum] at k1
      rw [← hxop] at k2
      rw [← hS] at k3
      rw [← HFL.out] at HSTEP
      have HIS := Lib.hid hIs
      obtain ⟨b, hb⟩ : ∃ b, b = nodeB x ps := ⟨_, rfl⟩
      rw [← hb] at C1 HSTEP
      obtain ⟨WA, hWA⟩ : ∃ WA, WA = wy.alloc (.cells #[.int .i64 xk, .int .i64 xnum, .int .i64 xop, .string S, .slice aa al ac] 57) := ⟨_, rfl⟩
      have HWA := Lib.hid hWA
      have HKA : Hid (Kp wy WA) := Lib.hid (by rw [hWA]; exact kp_alloc wy _)
      have hbA : Blk WA wy.heap.size 57 #[.int .i64 xk, .int .i64 xnum, .int .i64 xop, .string S, .slice aa al ac] := by rw [hWA]; exact Blk.new wy _ _
      obtain ⟨xb, hxb⟩ : ∃ xb, xb = wy.heap.size := ⟨_, rfl⟩
      have HXB := Lib.hid hxb
      have d0 := hbA.cell 0 rfl; have d1 := hbA.cell 1 rfl; have d2 := hbA.cell 2 rfl; have d3 := hbA.cell 3 rfl; have d4 := hbA.cell 4 rfl
      have D := Lib.hid (And.intro d0 (And.intro d1 (And.intro d2 (And.intro d3 d4))))
      rw [hWA] at d0 d1 d2 d3 d4
      have HKW : Hid (Kp w WA) := Lib.hid (Kp.trans HROW.out.kp HKA.out)
      have HRA : Hid (IRow w WA (.slice fo fl fc) fr) := Lib.hid (HROW.out.keep HKA.out)
      clear hal hxk hxnum hxop hS hb hWA hbA hxok hIs hxb
      cases b with
      | false =>
        have FIN : Hid (E = false) := Lib.hid (HNO.out (by rw [HSTEP.out]; simp))
        go_wp2_with fail
        rw [← HWA.out]
        clear d0 d1 d2 d3 d4 k0 k1 k2 k3 k4
        obtain ⟨d0, d1, d2, d3, d4⟩ := D.out
        obtain ⟨W4, hW4⟩ : ∃ W4, W4 = World.drew WA := ⟨_, rfl⟩
        have k4' : Kp WA W4 := by rw [hW4]; exact kp_drew WA
        refine wp_region_held_drew (S := (fun w' => w'.cell? ⟨wy.heap.size, 0, none⟩ = some (.int .i64 xk) ∧ w'.cell? ⟨wy.heap.size, 1, none⟩ = some (.int .i64 xnum) ∧ w'.cell? ⟨wy.heap.size, 2, none⟩ = some (.int .i64 xop) ∧ w'.cell? ⟨wy.heap.size, 3, none⟩ = some (.string S) ∧ w'.cell? ⟨wy.heap.size, 4, none⟩ = some (.slice aa al ac))) (by kernel_rfl) ?_ (fun hHeld => ?_)
        · exact ⟨d0, d1, d2, d3, d4⟩
        rw [← hW4] at hHeld ⊢
        clear hW4
        refine wpAnyH_take (i := 0) (v := (.agg #[.int .i64 xk, .int .i64 xnum, .int .i64 xop, .string S, .slice aa al ac])) rfl (by kernel_rfl) (by kernel_rfl) (by kernel_rfl) (fun _ _ _ h => h) (Or.inl ⟨by kernel_rfl, ?_⟩) (by assumption) ?_
        · (intro wq hSw; obtain ⟨s0, s1, s2, s3, s4⟩ := hSw; go_simp)
        try simp only [Act.put, List.setIfInBounds_toArray, List.set_cons_zero, List.set_cons_succ]
        refine wpAnyH_take (i := 1) (v := (.int .i64 ps)) rfl (by kernel_rfl) (by kernel_rfl) (by kernel_rfl) (fun _ _ _ h => h) (Or.inl ⟨by kernel_rfl, ?_⟩) (by assumption) ?_
        · (intro wq hSw; obtain ⟨s0, s1, s2, s3, s4⟩ := hSw; go_simp)
        try simp only [Act.put, List.setIfInBounds_toArray, List.set_cons_zero, List.set_cons_succ]
        refine wpAnyH_ready (rs := [2]) (by kernel_rfl) (by simp) (AllReadyH.cons rfl (fun KK hK => ?_) AllReadyH.nil)
        go_simp
        go_at_call 139
        refine (C1.out W4 (Kp.trans HKW.out k4')).mono ?_
        rintro e W3 ⟨rfl, hk3'⟩
        have hk3 := Kp.trans k4' hk3'
        go_wp2_with fail
        refine hK.out _ _ ⟨cell_kept d0 hk3, cell_kept d1 hk3, cell_kept d2 hk3, cell_kept d3 hk3, cell_kept d4 hk3⟩ (fun hHeld2 => ?_)
        clear hHeld hK KK
        have hHeld := hHeld2
        clear hHeld2
        try simp only [Act.put, List.setIfInBounds_toArray, List.set_cons_zero, List.set_cons_succ]
        refine wpAnyH_take (i := 3) (v := (.bool true)) rfl (by kernel_rfl) (by kernel_rfl) (by kernel_rfl) (fun _ _ _ h => h) (Or.inl ⟨by kernel_rfl, ?_⟩) (by assumption) ?_
        · (intro wq hSw; obtain ⟨s0, s1, s2, s3, s4⟩ := hSw; go_simp)
        try simp only [Act.put, List.setIfInBounds_toArray, List.set_cons_zero, List.set_cons_succ]
        refine wpAnyH_take (i := 4) (v := (.bool true)) rfl (by kernel_rfl) (by kernel_rfl) (by kernel_rfl) (fun _ _ _ h => h) (Or.inl ⟨by kernel_rfl, ?_⟩) (by assumption) ?_
        · (intro wq hSw; obtain ⟨s0, s1, s2, s3, s4⟩ := hSw; go_simp)
        try simp only [Act.put, List.setIfInBounds_toArray, List.set_cons_zero, List.set_cons_succ]
        refine wpAnyH_take (i := 5) (v := undef) rfl (by kernel_rfl) (by kernel_rfl) (by kernel_rfl) (fun _ _ _ h => h) (Or.inr ⟨by kernel_rfl, rfl⟩) (by assumption) ?_
        try simp only [Act.put, List.setIfInBounds_toArray, List.set_cons_zero, List.set_cons_succ]
        refine wpAnyH_take (i := 6) (v := undef) rfl (by kernel_rfl) (by kernel_rfl) (by kernel_rfl) (fun _ _ _ h => h) (Or.inr ⟨by kernel_rfl, rfl⟩) (by assumption) ?_
        try simp only [Act.put, List.setIfInBounds_toArray, List.set_cons_zero, List.set_cons_succ]
        refine wpAnyH_take (i := 7) (v := (.bool true)) rfl (by kernel_rfl) (by kernel_rfl) (by kernel_rfl) (fun _ _ _ h => h) (Or.inl ⟨by kernel_rfl, ?_⟩) (by assumption) ?_
        · (intro wq hSw; obtain ⟨s0, s1, s2, s3, s4⟩ := hSw; go_simp)
        try simp only [Act.put, List.setIfInBounds_toArray, List.set_cons_zero, List.set_cons_succ]
        refine wpAnyH_take (i := 8) (v := (.bool true)) rfl (by kernel_rfl) (by kernel_rfl) (by kernel_rfl) (fun _ _ _ h => h) (Or.inl ⟨by kernel_rfl, ?_⟩) (by assumption) ?_
        · (intro wq hSw; obtain ⟨s0, s1, s2, s3, s4⟩ := hSw; go_simp)
        try simp only [Act.put, List.setIfInBounds_toArray, List.set_cons_zero, List.set_cons_succ]
        refine wpAnyH_take (i := 9) (v := undef) rfl (by kernel_rfl) (by kernel_rfl) (by kernel_rfl) (fun _ _ _ h => h) (Or.inr ⟨by kernel_rfl, rfl⟩) (by assumption) ?_
        try simp only [Act.put, List.setIfInBounds_toArray, List.set_cons_zero, List.set_cons_succ]
        refine wpAnyH_take (i := 10) (v := undef) rfl (by kernel_rfl) (by kernel_rfl) (by kernel_rfl) (fun _ _ _ h => h) (Or.inr ⟨by kernel_rfl, rfl⟩) (by assumption) ?_
        try simp only [Act.put, List.setIfInBounds_toArray, List.set_cons_zero, List.set_cons_succ]
        refine wpAnyH_take (i := 11) (v := undef) rfl (by kernel_rfl) (by kernel_rfl) (by kernel_rfl) (fun _ _ _ h => h) (Or.inr ⟨by kernel_rfl, rfl⟩) (by assumption) ?_
        try simp only [Act.put, List.setIfInBounds_toArray, List.set_cons_zero, List.set_cons_succ]
        refine wpAnyH_take (i := 12) (v := undef) rfl (by kernel_rfl) (by kernel_rfl) (by kernel_rfl) (fun _ _ _ h => h) (Or.inr ⟨by kernel_rfl, rfl⟩) (by assumption) ?_
        try simp only [Act.put, List.setIfInBounds_toArray, List.set_cons_zero, List.set_cons_succ]
        refine wpAnyH_take (i := 13) (v := undef) rfl (by kernel_rfl) (by kernel_rfl) (by kernel_rfl) (fun _ _ _ h => h) (Or.inr ⟨by kernel_rfl, rfl⟩) (by assumption) ?_
        try simp only [Act.put, List.setIfInBounds_toArray, List.set_cons_zero, List.set_cons_succ]
        refine wpAnyH_take (i := 14) (v := undef) rfl (by kernel_rfl) (by kernel_rfl) (by kernel_rfl) (fun _ _ _ h => h) (Or.inr ⟨by kernel_rfl, rfl⟩) (by assumption) ?_
        try simp only [Act.put, List.setIfInBounds_toArray, List.set_cons_zero, List.set_cons_succ]
        refine wpAnyH_take (i := 15) (v := undef) rfl (by kernel_rfl) (by kernel_rfl) (by kernel_rfl) (fun _ _ _ h => h) (Or.inr ⟨by kernel_rfl, rfl⟩) (by assumption) ?_
        try simp only [Act.put, List.setIfInBounds_toArray, List.set_cons_zero, List.set_cons_succ]
        refine wpAnyH_take (i := 16) (v := (.bool true)) rfl (by kernel_rfl) (by kernel_rfl) (by kernel_rfl) (fun _ _ _ h => h) (Or.inl ⟨by kernel_rfl, ?_⟩) (by assumption) ?_
        · (intro wq hSw; obtain ⟨s0, s1, s2, s3, s4⟩ := hSw; go_simp)
        try simp only [Act.put, List.setIfInBounds_toArray, List.set_cons_zero, List.set_cons_succ]
        refine wpAnyH_done (by kernel_rfl) ?_ _
        go_simp
        go_wp2_with fail
        go_ret
        exact ⟨by rw [FIN.out]; simp, Kp.trans HKW.out hk3⟩
      | true =>
        by_cases haf : al ≤ fl
        · obtain ⟨k, hk⟩ : ∃ k : Nat, fl = k + al := ⟨fl - al, by omega⟩
          have hk0 : (fl : Int) - (al : Int) = (k : Int) := by omega
          have hk1 : decide ((k : Int) < 0) = false := decide_eq_false (by omega)
          have hkl : k ≤ fr.length := by have := HFL.out; omega
          obtain ⟨V, qs, hV⟩ := sli_from HRA.out (by have := HFL.out; omega) hkl
          have qt := sli_to HRA.out hkl
          have C2 : Hid (∀ W, Kp WA W → Calls Tryz.prog 107 #[V, .slice aa al ac] W fun e w' => e = .returned (.bool (fr.drop k == x.args)) ∧ Kp W w') := Lib.hid (fun W hk => EqualI_any (hV.kp hk) (HIS.out.kp (Kp.trans HKA.out hk)))
          have HKF : Hid (fl - al = k) := Lib.hid (by omega)
          rw [HKF.out] at HSTEP
          obtain ⟨q, hq⟩ : ∃ q, q = (fr.drop k == x.args) := ⟨_, rfl⟩
          rw [← hq] at C2 HSTEP
          have HAF : Hid (decide (al ≤ fl) = true) := Lib.hid (decide_eq_true haf)
          have HCUT : Hid (IRow w WA (.slice fo k fc) (fr.take k)) := Lib.hid (HRA.out.cut hkl)
          have HKI : Hid ((fr.take k).length = k) := Lib.hid (by rw [List.length_take]; omega)
          have hkfl : k ≤ fl := by omega
          have HFLK := Lib.hid hk
          clear hV hq haf hk hkl
          cases q with
          | false =>
            have FIN : Hid (E = false) := Lib.hid (HNO.out (by rw [HSTEP.out]; simp))
            go_wp2_with fail
            rw [← HWA.out]
            clear d0 d1 d2 d3 d4 k0 k1 k2 k3 k4
            obtain ⟨d0, d1, d2, d3, d4⟩ := D.out
            obtain ⟨W4, hW4⟩ : ∃ W4, W4 = World.drew WA := ⟨_, rfl⟩
            have k4' : Kp WA W4 := by rw [hW4]; exact kp_drew WA
            refine wp_region_held_drew (S := (fun w' => w'.cell? ⟨wy.heap.size, 0, none⟩ = some (.int .i64 xk) ∧ w'.cell? ⟨wy.heap.size, 1, none⟩ = some (.int .i64 xnum) ∧ w'.cell? ⟨wy.heap.size, 2, none⟩ = some (.int .i64 xop) ∧ w'.cell? ⟨wy.heap.size, 3, none⟩ = some (.string S) ∧ w'.cell? ⟨wy.heap.size, 4, none⟩ = some (.slice aa al ac))) (by kernel_rfl) ?_ (fun hHeld => ?_)
            · exact ⟨d0, d1, d2, d3, d4⟩
            rw [← hW4] at hHeld ⊢
            clear hW4
            refine wpAnyH_take (i := 0) (v := (.agg #[.int .i64 xk, .int .i64 xnum, .int .i64 xop, .string S, .slice aa al ac])) rfl (by kernel_rfl) (by kernel_rfl) (by kernel_rfl) (fun _ _ _ h => h) (Or.inl ⟨by kernel_rfl, ?_⟩) (by assumption) ?_
            · (intro wq hSw; obtain ⟨s0, s1, s2, s3, s4⟩ := hSw; go_simp)
            try simp only [Act.put, List.setIfInBounds_toArray, List.set_cons_zero, List.set_cons_succ]
            refine wpAnyH_take (i := 1) (v := (.int .i64 ps)) rfl (by kernel_rfl) (by kernel_rfl) (by kernel_rfl) (fun _ _ _ h => h) (Or.inl ⟨by kernel_rfl, ?_⟩) (by assumption) ?_
            · (intro wq hSw; obtain ⟨s0, s1, s2, s3, s4⟩ := hSw; go_simp)
            try simp only [Act.put, List.setIfInBounds_toArray, List.set_cons_zero, List.set_cons_succ]
            refine wpAnyH_ready (rs := [2]) (by kernel_rfl) (by simp) (AllReadyH.cons rfl (fun KK hK => ?_) AllReadyH.nil)
            go_simp
            go_at_call 139
            refine (C1.out W4 (Kp.trans HKW.out k4')).mono ?_
            rintro e W3 ⟨rfl, hk3'⟩
            have hk3 := Kp.trans k4' hk3'
            go_wp2_with fail
            refine hK.out _ _ ⟨cell_kept d0 hk3, cell_kept d1 hk3, cell_kept d2 hk3, cell_kept d3 hk3, cell_kept d4 hk3⟩ (fun hHeld2 => ?_)
            clear hHeld hK KK
            have hHeld := hHeld2
            clear hHeld2
            try simp only [Act.put, List.setIfInBounds_toArray, List.set_cons_zero, List.set_cons_succ]
            refine wpAnyH_take (i := 3) (v := (.bool false)) rfl (by kernel_rfl) (by kernel_rfl) (by kernel_rfl) (fun _ _ _ h => h) (Or.inl ⟨by kernel_rfl, ?_⟩) (by assumption) ?_
            · (intro wq hSw; obtain ⟨s0, s1, s2, s3, s4⟩ := hSw; go_simp)
            try simp only [Act.put, List.setIfInBounds_toArray, List.set_cons_zero, List.set_cons_succ]
            refine wpAnyH_take (i := 4) (v := (.bool false)) rfl (by kernel_rfl) (by kernel_rfl) (by kernel_rfl) (fun _ _ _ h => h) (Or.inl ⟨by kernel_rfl, ?_⟩) (by assumption) ?_
            · (intro wq hSw; obtain ⟨s0, s1, s2, s3, s4⟩ := hSw; go_simp)
            try simp only [Act.put, List.setIfInBounds_toArray, List.set_cons_zero, List.set_cons_succ]
            refine wpAnyH_take (i := 5) (v := (.int .i64 (k : Nat))) rfl (by kernel_rfl) (by kernel_rfl) (by kernel_rfl) (fun _ _ _ h => h) (Or.inl ⟨by kernel_rfl, ?_⟩) (by assumption) ?_
            · (intro wq hSw; obtain ⟨s0, s1, s2, s3, s4⟩ := hSw; go_simp)
            try simp only [Act.put, List.setIfInBounds_toArray, List.set_cons_zero, List.set_cons_succ]
            refine wpAnyH_take (i := 6) (v := (.bool false)) rfl (by kernel_rfl) (by kernel_rfl) (by kernel_rfl) (fun _ _ _ h => h) (Or.inl ⟨by kernel_rfl, ?_⟩) (by assumption) ?_
            · (intro wq hSw; obtain ⟨s0, s1, s2, s3, s4⟩ := hSw; go_simp)
            try simp only [Act.put, List.setIfInBounds_toArray, List.set_cons_zero, List.set_cons_succ]
            refine wpAnyH_take (i := 7) (v := (.bool false)) rfl (by kernel_rfl) (by kernel_rfl) (by kernel_rfl) (fun _ _ _ h => h) (Or.inl ⟨by kernel_rfl, ?_⟩) (by assumption) ?_
            · (intro wq hSw; obtain ⟨s0, s1, s2, s3, s4⟩ := hSw; go_simp)
            try simp only [Act.put, List.setIfInBounds_toArray, List.set_cons_zero, List.set_cons_succ]
            refine wpAnyH_take (i := 8) (v := (.bool false)) rfl (by kernel_rfl) (by kernel_rfl) (by kernel_rfl) (fun _ _ _ h => h) (Or.inl ⟨by kernel_rfl, ?_⟩) (by assumption) ?_
            · (intro wq hSw; obtain ⟨s0, s1, s2, s3, s4⟩ := hSw; go_simp)
            try simp only [Act.put, List.setIfInBounds_toArray, List.set_cons_zero, List.set_cons_succ]
            refine wpAnyH_take (i := 9) (v := (.slice fo fl fc)) rfl (by kernel_rfl) (by kernel_rfl) (by kernel_rfl) (fun _ _ _ h => h) (Or.inl ⟨by kernel_rfl, ?_⟩) (by assumption) ?_
            · (intro wq hSw; obtain ⟨s0, s1, s2, s3, s4⟩ := hSw; go_simp)
            try simp only [Act.put, List.setIfInBounds_toArray, List.set_cons_zero, List.set_cons_succ]
            refine wpAnyH_take (i := 10) (v := (.int .i64 (k : Nat))) rfl (by kernel_rfl) (by kernel_rfl) (by kernel_rfl) (fun _ _ _ h => h) (Or.inl ⟨by kernel_rfl, ?_⟩) (by assumption) ?_
            · (intro wq hSw; obtain ⟨s0, s1, s2, s3, s4⟩ := hSw; go_simp)
            try simp only [Act.put, List.setIfInBounds_toArray, List.set_cons_zero, List.set_cons_succ]
            refine wpAnyH_take (i := 11) (v := V) rfl (by kernel_rfl) (by kernel_rfl) (by kernel_rfl) (fun _ _ _ h => h) (Or.inl ⟨by kernel_rfl, ?_⟩) (by assumption) ?_
            · (intro wq hSw; obtain ⟨s0, s1, s2, s3, s4⟩ := hSw; go_simp)
            try simp only [Act.put, List.setIfInBounds_toArray, List.set_cons_zero, List.set_cons_succ]
            refine wpAnyH_take (i := 12) (v := (.pointer (some ⟨wy.heap.size, 4, none⟩))) rfl (by kernel_rfl) (by kernel_rfl) (by kernel_rfl) (fun _ _ _ h => h) (Or.inl ⟨by kernel_rfl, ?_⟩) (by assumption) ?_
            · (intro wq hSw; obtain ⟨s0, s1, s2, s3, s4⟩ := hSw; go_simp)
            try simp only [Act.put, List.setIfInBounds_toArray, List.set_cons_zero, List.set_cons_succ]
            refine wpAnyH_take (i := 13) (v := (.slice aa al ac)) rfl (by kernel_rfl) (by kernel_rfl) (by kernel_rfl) (fun _ _ _ h => h) (Or.inl ⟨by kernel_rfl, ?_⟩) (by assumption) ?_
            · (intro wq hSw; obtain ⟨s0, s1, s2, s3, s4⟩ := hSw; go_simp)
            try simp only [Act.put, List.setIfInBounds_toArray, List.set_cons_zero, List.set_cons_succ]
            refine wpAnyH_ready (rs := [14]) (by kernel_rfl) (by simp) (AllReadyH.cons rfl (fun KK hK => ?_) AllReadyH.nil)
            go_simp
            go_at_call 107
            refine (C2.out W3 hk3).mono ?_
            rintro e W5 ⟨rfl, hk5'⟩
            have hk5 := Kp.trans hk3 hk5'
            go_wp2_with fail
            refine hK.out _ _ ⟨cell_kept d0 hk5, cell_kept d1 hk5, cell_kept d2 hk5, cell_kept d3 hk5, cell_kept d4 hk5⟩ (fun hHeld2 => ?_)
            clear hHeld hK KK
            have hHeld := hHeld2
            clear hHeld2
            try simp only [Act.put, List.setIfInBounds_toArray, List.set_cons_zero, List.set_cons_succ]
            refine wpAnyH_take (i := 15) (v := (.bool true)) rfl (by kernel_rfl) (by kernel_rfl) (by kernel_rfl) (fun _ _ _ h => h) (Or.inl ⟨by kernel_rfl, ?_⟩) (by assumption) ?_
            · (intro wq hSw; obtain ⟨s0, s1, s2, s3, s4⟩ := hSw; go_simp)
            try simp only [Act.put, List.setIfInBounds_toArray, List.set_cons_zero, List.set_cons_succ]
            refine wpAnyH_take (i := 16) (v := (.bool true)) rfl (by kernel_rfl) (by kernel_rfl) (by kernel_rfl) (fun _ _ _ h => h) (Or.inl ⟨by kernel_rfl, ?_⟩) (by assumption) ?_
            · (intro wq hSw; obtain ⟨s0, s1, s2, s3, s4⟩ := hSw; go_simp)
            try simp only [Act.put, List.setIfInBounds_toArray, List.set_cons_zero, List.set_cons_succ]
            refine wpAnyH_done (by kernel_rfl) ?_ _
            go_simp
            go_wp2_with fail
            go_ret
            exact ⟨by rw [FIN.out]; simp, Kp.trans HKW.out hk5⟩
          | true =>
            go_wp2_with fail
            rw [← HWA.out]
            clear d0 d1 d2 d3 d4 k0 k1 k2 k3 k4
            obtain ⟨d0, d1, d2, d3, d4⟩ := D.out
            obtain ⟨W4, hW4⟩ : ∃ W4, W4 = World.drew WA := ⟨_, rfl⟩
            have k4' : Kp WA W4 := by rw [hW4]; exact kp_drew WA
            refine wp_region_held_drew (S := (fun w' => w'.cell? ⟨wy.heap.size, 0, none⟩ = some (.int .i64 xk) ∧ w'.cell? ⟨wy.heap.size, 1, none⟩ = some (.int .i64 xnum) ∧ w'.cell? ⟨wy.heap.size, 2, none⟩ = some (.int .i64 xop) ∧ w'.cell? ⟨wy.heap.size, 3, none⟩ = some (.string S) ∧ w'.cell? ⟨wy.heap.size, 4, none⟩ = some (.slice aa al ac))) (by kernel_rfl) ?_ (fun hHeld => ?_)
            · exact ⟨d0, d1, d2, d3, d4⟩
            rw [← hW4] at hHeld ⊢
            clear hW4
            refine wpAnyH_take (i := 0) (v := (.agg #[.int .i64 xk, .int .i64 xnum, .int .i64 xop, .string S, .slice aa al ac])) rfl (by kernel_rfl) (by kernel_rfl) (by kernel_rfl) (fun _ _ _ h => h) (Or.inl ⟨by kernel_rfl, ?_⟩) (by assumption) ?_
            · (intro wq hSw; obtain ⟨s0, s1, s2, s3, s4⟩ := hSw; go_simp)
            try simp only [Act.put, List.setIfInBounds_toArray, List.set_cons_zero, List.set_cons_succ]
            refine wpAnyH_take (i := 1) (v := (.int .i64 ps)) rfl (by kernel_rfl) (by kernel_rfl) (by kernel_rfl) (fun _ _ _ h => h) (Or.inl ⟨by kernel_rfl, ?_⟩) (by assumption) ?_
            · (intro wq hSw; obtain ⟨s0, s1, s2, s3, s4⟩ := hSw; go_simp)
            try simp only [Act.put, List.setIfInBounds_toArray, List.set_cons_zero, List.set_cons_succ]
            refine wpAnyH_ready (rs := [2]) (by kernel_rfl) (by simp) (AllReadyH.cons rfl (fun KK hK => ?_) AllReadyH.nil)
            go_simp
            go_at_call 139
            refine (C1.out W4 (Kp.trans HKW.out k4')).mono ?_
            rintro e W3 ⟨rfl, hk3'⟩
            have hk3 := Kp.trans k4' hk3'
            go_wp2_with fail
            refine hK.out _ _ ⟨cell_kept d0 hk3, cell_kept d1 hk3, cell_kept d2 hk3, cell_kept d3 hk3, cell_kept d4 hk3⟩ (fun hHeld2 => ?_)
            clear hHeld hK KK
            have hHeld := hHeld2
            clear hHeld2
            try simp only [Act.put, List.setIfInBounds_toArray, List.set_cons_zero, List.set_cons_succ]
            refine wpAnyH_take (i := 3) (v := (.bool false)) rfl (by kernel_rfl) (by kernel_rfl) (by kernel_rfl) (fun _ _ _ h => h) (Or.inl ⟨by kernel_rfl, ?_⟩) (by assumption) ?_
            · (intro wq hSw; obtain ⟨s0, s1, s2, s3, s4⟩ := hSw; go_simp)
            try simp only [Act.put, List.setIfInBounds_toArray, List.set_cons_zero, List.set_cons_succ]
            refine wpAnyH_take (i := 4) (v := (.bool false)) rfl (by kernel_rfl) (by kernel_rfl) (by kernel_rfl) (fun _ _ _ h => h) (Or.inl ⟨by kernel_rfl, ?_⟩) (by assumption) ?_
            · (intro wq hSw; obtain ⟨s0, s1, s2, s3, s4⟩ := hSw; go_simp)
            try simp only [Act.put, List.setIfInBounds_toArray, List.set_cons_zero, List.set_cons_succ]
            refine wpAnyH_take (i := 5) (v := (.int .i64 (k : Nat))) rfl (by kernel_rfl) (by kernel_rfl) (by kernel_rfl) (fun _ _ _ h => h) (Or.inl ⟨by kernel_rfl, ?_⟩) (by assumption) ?_
            · (intro wq hSw; obtain ⟨s0, s1, s2, s3, s4⟩ := hSw; go_simp)
            try simp only [Act.put, List.setIfInBounds_toArray, List.set_cons_zero, List.set_cons_succ]
            refine wpAnyH_take (i := 6) (v := (.bool false)) rfl (by kernel_rfl) (by kernel_rfl) (by kernel_rfl) (fun _ _ _ h => h) (Or.inl ⟨by kernel_rfl, ?_⟩) (by assumption) ?_
            · (intro wq hSw; obtain ⟨s0, s1, s2, s3, s4⟩ := hSw; go_simp)
            try simp only [Act.put, List.setIfInBounds_toArray, List.set_cons_zero, List.set_cons_succ]
            refine wpAnyH_take (i := 7) (v := (.bool false)) rfl (by kernel_rfl) (by kernel_rfl) (by kernel_rfl) (fun _ _ _ h => h) (Or.inl ⟨by kernel_rfl, ?_⟩) (by assumption) ?_
            · (intro wq hSw; obtain ⟨s0, s1, s2, s3, s4⟩ := hSw; go_simp)
            try simp only [Act.put, List.setIfInBounds_toArray, List.set_cons_zero, List.set_cons_succ]
            refine wpAnyH_take (i := 8) (v := (.bool false)) rfl (by kernel_rfl) (by kernel_rfl) (by kernel_rfl) (fun _ _ _ h => h) (Or.inl ⟨by kernel_rfl, ?_⟩) (by assumption) ?_
            · (intro wq hSw; obtain ⟨s0, s1, s2, s3, s4⟩ := hSw; go_simp)
            try simp only [Act.put, List.setIfInBounds_toArray, List.set_cons_zero, List.set_cons_succ]
            refine wpAnyH_take (i := 9) (v := (.slice fo fl fc)) rfl (by kernel_rfl) (by kernel_rfl) (by kernel_rfl) (fun _ _ _ h => h) (Or.inl ⟨by kernel_rfl, ?_⟩) (by assumption) ?_
            · (intro wq hSw; obtain ⟨s0, s1, s2, s3, s4⟩ := hSw; go_simp)
            try simp only [Act.put, List.setIfInBounds_toArray, List.set_cons_zero, List.set_cons_succ]
            refine wpAnyH_take (i := 10) (v := (.int .i64 (k : Nat))) rfl (by kernel_rfl) (by kernel_rfl) (by kernel_rfl) (fun _ _ _ h => h) (Or.inl ⟨by kernel_rfl, ?_⟩) (by assumption) ?_
            · (intro wq hSw; obtain ⟨s0, s1, s2, s3, s4⟩ := hSw; go_simp)
            try simp only [Act.put, List.setIfInBounds_toArray, List.set_cons_zero, List.set_cons_succ]
            refine wpAnyH_take (i := 11) (v := V) rfl (by kernel_rfl) (by kernel_rfl) (by kernel_rfl) (fun _ _ _ h => h) (Or.inl ⟨by kernel_rfl, ?_⟩) (by assumption) ?_
            · (intro wq hSw; obtain ⟨s0, s1, s2, s3, s4⟩ := hSw; go_simp)
            try simp only [Act.put, List.setIfInBounds_toArray, List.set_cons_zero, List.set_cons_succ]
            refine wpAnyH_take (i := 12) (v := (.pointer (some ⟨wy.heap.size, 4, none⟩))) rfl (by kernel_rfl) (by kernel_rfl) (by kernel_rfl) (fun _ _ _ h => h) (Or.inl ⟨by kernel_rfl, ?_⟩) (by assumption) ?_
            · (intro wq hSw; obtain ⟨s0, s1, s2, s3, s4⟩ := hSw; go_simp)
            try simp only [Act.put, List.setIfInBounds_toArray, List.set_cons_zero, List.set_cons_succ]
            refine wpAnyH_take (i := 13) (v := (.slice aa al ac)) rfl (by kernel_rfl) (by kernel_rfl) (by kernel_rfl) (fun _ _ _ h => h) (Or.inl ⟨by kernel_rfl, ?_⟩) (by assumption) ?_
            · (intro wq hSw; obtain ⟨s0, s1, s2, s3, s4⟩ := hSw; go_simp)
            try simp only [Act.put, List.setIfInBounds_toArray, List.set_cons_zero, List.set_cons_succ]
            refine wpAnyH_ready (rs := [14]) (by kernel_rfl) (by simp) (AllReadyH.cons rfl (fun KK hK => ?_) AllReadyH.nil)
            go_simp
            go_at_call 107
            refine (C2.out W3 hk3).mono ?_
            rintro e W5 ⟨rfl, hk5'⟩
            have hk5 := Kp.trans hk3 hk5'
            go_wp2_with fail
            refine hK.out _ _ ⟨cell_kept d0 hk5, cell_kept d1 hk5, cell_kept d2 hk5, cell_kept d3 hk5, cell_kept d4 hk5⟩ (fun hHeld2 => ?_)
            clear hHeld hK KK
            have hHeld := hHeld2
            clear hHeld2
            try simp only [Act.put, List.setIfInBounds_toArray, List.set_cons_zero, List.set_cons_succ]
            refine wpAnyH_take (i := 15) (v := (.bool false)) rfl (by kernel_rfl) (by kernel_rfl) (by kernel_rfl) (fun _ _ _ h => h) (Or.inl ⟨by kernel_rfl, ?_⟩) (by assumption) ?_
            · (intro wq hSw; obtain ⟨s0, s1, s2, s3, s4⟩ := hSw; go_simp)
            try simp only [Act.put, List.setIfInBounds_toArray, List.set_cons_zero, List.set_cons_succ]
            refine wpAnyH_take (i := 16) (v := (.bool false)) rfl (by kernel_rfl) (by kernel_rfl) (by kernel_rfl) (fun _ _ _ h => h) (Or.inl ⟨by kernel_rfl, ?_⟩) (by assumption) ?_
            · (intro wq hSw; obtain ⟨s0, s1, s2, s3, s4⟩ := hSw; go_simp)
            try simp only [Act.put, List.setIfInBounds_toArray, List.set_cons_zero, List.set_cons_succ]
            refine wpAnyH_done (by kernel_rfl) ?_ _
            go_simp
            have HK4 := Lib.hid hk5
            clear hk3 hk5 hk3' hk5' k4' d0 d1 d2 d3 d4 hHeld
            have HR4 : Hid (IRow w (W5.alloc (.cells #[.int .i64 (i : Int)] 3)) (.slice fo k fc) (fr.take k)) := Lib.hid ((HCUT.out.keep HK4.out).keep (kp_alloc _ _))
            have HB4 : Hid (Blk (W5.alloc (.cells #[.int .i64 (i : Int)] 3)) W5.heap.size 3 #[.int .i64 (i : Int)]) := Lib.hid (Blk.new _ _ _)
            have HTL : Hid ((fr.take k).length ≤ 1000000) := Lib.hid (by rw [HKI.out]; omega)
            have HNEW : Hid (Hid (bodyF ps 0 l [] = bodyF ps (i + 1) (l.drop (i + 1)) (fr.take k ++ [(i : Int)]))) := Lib.hid (Lib.hid (by rw [HSTEP.out, HAF.out]; rfl))
            go_wp2_with (at_builtin; refine wpList_int (w := w) rfl (.tmp 41) (.tmp 43) rfl _ (fr.take k) rfl HR4.out (i : Int) W5.heap.size rfl HB4.out HTL.out ?_)
            intro v5 w5 hrow5
            obtain ⟨a5, c5, rfl⟩ := row_open hrow5.own
            have HR5 := Lib.hid hrow5
            have HL5 : Hid ((fr.take k ++ [(i : Int)]).length ≤ i + 1) := Lib.hid (by rw [List.length_append, HKI.out]; simp; omega)
            clear hrow5
            go_wp2_with fail
            go_roundw
            case rel => exact ⟨i + 1, _, a5, c5, by omega, vint (by omega), rfl, HL5.out, HR5, HNEW.out⟩
            case measure => simp [intOf]; omega
        · have hk1 : decide ((fl : Int) - (al : Int) < 0) = true := decide_eq_true (by omega)
          have FIN : Hid (E = false) := Lib.hid (HNO.out (by rw [HSTEP.out, decide_eq_false haf]; simp))
          go_wp2_with fail
          rw [← HWA.out]
          clear d0 d1 d2 d3 d4 k0 k1 k2 k3 k4
          obtain ⟨d0, d1, d2, d3, d4⟩ := D.out
          obtain ⟨W4, hW4⟩ : ∃ W4, W4 = World.drew WA := ⟨_, rfl⟩
          have k4' : Kp WA W4 := by rw [hW4]; exact kp_drew WA
          refine wp_region_held_drew (S := (fun w' => w'.cell? ⟨wy.heap.size, 0, none⟩ = some (.int .i64 xk) ∧ w'.cell? ⟨wy.heap.size, 1, none⟩ = some (.int .i64 xnum) ∧ w'.cell? ⟨wy.heap.size, 2, none⟩ = some (.int .i64 xop) ∧ w'.cell? ⟨wy.heap.size, 3, none⟩ = some (.string S) ∧ w'.cell? ⟨wy.heap.size, 4, none⟩ = some (.slice aa al ac))) (by kernel_rfl) ?_ (fun hHeld => ?_)
          · exact ⟨d0, d1, d2, d3, d4⟩
          rw [← hW4] at hHeld ⊢
          clear hW4
          refine wpAnyH_take (i := 0) (v := (.agg #[.int .i64 xk, .int .i64 xnum, .int .i64 xop, .string S, .slice aa al ac])) rfl (by kernel_rfl) (by kernel_rfl) (by kernel_rfl) (fun _ _ _ h => h) (Or.inl ⟨by kernel_rfl, ?_⟩) (by assumption) ?_
          · (intro wq hSw; obtain ⟨s0, s1, s2, s3, s4⟩ := hSw; go_simp)
          try simp only [Act.put, List.setIfInBounds_toArray, List.set_cons_zero, List.set_cons_succ]
          refine wpAnyH_take (i := 1) (v := (.int .i64 ps)) rfl (by kernel_rfl) (by kernel_rfl) (by kernel_rfl) (fun _ _ _ h => h) (Or.inl ⟨by kernel_rfl, ?_⟩) (by assumption) ?_
          · (intro wq hSw; obtain ⟨s0, s1, s2, s3, s4⟩ := hSw; go_simp)
          try simp only [Act.put, List.setIfInBounds_toArray, List.set_cons_zero, List.set_cons_succ]
          refine wpAnyH_ready (rs := [2]) (by kernel_rfl) (by simp) (AllReadyH.cons rfl (fun KK hK => ?_) AllReadyH.nil)
          go_simp
          go_at_call 139
          refine (C1.out W4 (Kp.trans HKW.out k4')).mono ?_
          rintro e W3 ⟨rfl, hk3'⟩
          have hk3 := Kp.trans k4' hk3'
          go_wp2_with fail
          refine hK.out _ _ ⟨cell_kept d0 hk3, cell_kept d1 hk3, cell_kept d2 hk3, cell_kept d3 hk3, cell_kept d4 hk3⟩ (fun hHeld2 => ?_)
          clear hHeld hK KK
          have hHeld := hHeld2
          clear hHeld2
          try simp only [Act.put, List.setIfInBounds_toArray, List.set_cons_zero, List.set_cons_succ]
          refine wpAnyH_take (i := 3) (v := (.bool false)) rfl (by kernel_rfl) (by kernel_rfl) (by kernel_rfl) (fun _ _ _ h => h) (Or.inl ⟨by kernel_rfl, ?_⟩) (by assumption) ?_
          · (intro wq hSw; obtain ⟨s0, s1, s2, s3, s4⟩ := hSw; go_simp)
          try simp only [Act.put, List.setIfInBounds_toArray, List.set_cons_zero, List.set_cons_succ]
          refine wpAnyH_take (i := 4) (v := (.bool false)) rfl (by kernel_rfl) (by kernel_rfl) (by kernel_rfl) (fun _ _ _ h => h) (Or.inl ⟨by kernel_rfl, ?_⟩) (by assumption) ?_
          · (intro wq hSw; obtain ⟨s0, s1, s2, s3, s4⟩ := hSw; go_simp)
          try simp only [Act.put, List.setIfInBounds_toArray, List.set_cons_zero, List.set_cons_succ]
          refine wpAnyH_take (i := 5) (v := (.int .i64 ((fl : Int) - (al : Int)))) rfl (by kernel_rfl) (by kernel_rfl) (by kernel_rfl) (fun _ _ _ h => h) (Or.inl ⟨by kernel_rfl, ?_⟩) (by assumption) ?_
          · (intro wq hSw; obtain ⟨s0, s1, s2, s3, s4⟩ := hSw; go_simp)
          try simp only [Act.put, List.setIfInBounds_toArray, List.set_cons_zero, List.set_cons_succ]
          refine wpAnyH_take (i := 6) (v := (.bool true)) rfl (by kernel_rfl) (by kernel_rfl) (by kernel_rfl) (fun _ _ _ h => h) (Or.inl ⟨by kernel_rfl, ?_⟩) (by assumption) ?_
          · (intro wq hSw; obtain ⟨s0, s1, s2, s3, s4⟩ := hSw; go_simp)
          try simp only [Act.put, List.setIfInBounds_toArray, List.set_cons_zero, List.set_cons_succ]
          refine wpAnyH_take (i := 7) (v := (.bool true)) rfl (by kernel_rfl) (by kernel_rfl) (by kernel_rfl) (fun _ _ _ h => h) (Or.inl ⟨by kernel_rfl, ?_⟩) (by assumption) ?_
          · (intro wq hSw; obtain ⟨s0, s1, s2, s3, s4⟩ := hSw; go_simp)
          try simp only [Act.put, List.setIfInBounds_toArray, List.set_cons_zero, List.set_cons_succ]
          refine wpAnyH_take (i := 8) (v := (.bool true)) rfl (by kernel_rfl) (by kernel_rfl) (by kernel_rfl) (fun _ _ _ h => h) (Or.inl ⟨by kernel_rfl, ?_⟩) (by assumption) ?_
          · (intro wq hSw; obtain ⟨s0, s1, s2, s3, s4⟩ := hSw; go_simp)
          try simp only [Act.put, List.setIfInBounds_toArray, List.set_cons_zero, List.set_cons_succ]
          refine wpAnyH_take (i := 9) (v := undef) rfl (by kernel_rfl) (by kernel_rfl) (by kernel_rfl) (fun _ _ _ h => h) (Or.inr ⟨by kernel_rfl, rfl⟩) (by assumption) ?_
          try simp only [Act.put, List.setIfInBounds_toArray, List.set_cons_zero, List.set_cons_succ]
          refine wpAnyH_take (i := 10) (v := undef) rfl (by kernel_rfl) (by kernel_rfl) (by kernel_rfl) (fun _ _ _ h => h) (Or.inr ⟨by kernel_rfl, rfl⟩) (by assumption) ?_
          try simp only [Act.put, List.setIfInBounds_toArray, List.set_cons_zero, List.set_cons_succ]
          refine wpAnyH_take (i := 11) (v := undef) rfl (by kernel_rfl) (by kernel_rfl) (by kernel_rfl) (fun _ _ _ h => h) (Or.inr ⟨by kernel_rfl, rfl⟩) (by assumption) ?_
          try simp only [Act.put, List.setIfInBounds_toArray, List.set_cons_zero, List.set_cons_succ]
          refine wpAnyH_take (i := 12) (v := undef) rfl (by kernel_rfl) (by kernel_rfl) (by kernel_rfl) (fun _ _ _ h => h) (Or.inr ⟨by kernel_rfl, rfl⟩) (by assumption) ?_
          try simp only [Act.put, List.setIfInBounds_toArray, List.set_cons_zero, List.set_cons_succ]
          refine wpAnyH_take (i := 13) (v := undef) rfl (by kernel_rfl) (by kernel_rfl) (by kernel_rfl) (fun _ _ _ h => h) (Or.inr ⟨by kernel_rfl, rfl⟩) (by assumption) ?_
          try simp only [Act.put, List.setIfInBounds_toArray, List.set_cons_zero, List.set_cons_succ]
          refine wpAnyH_take (i := 14) (v := undef) rfl (by kernel_rfl) (by kernel_rfl) (by kernel_rfl) (fun _ _ _ h => h) (Or.inr ⟨by kernel_rfl, rfl⟩) (by assumption) ?_
          try simp only [Act.put, List.setIfInBounds_toArray, List.set_cons_zero, List.set_cons_succ]
          refine wpAnyH_take (i := 15) (v := undef) rfl (by kernel_rfl) (by kernel_rfl) (by kernel_rfl) (fun _ _ _ h => h) (Or.inr ⟨by kernel_rfl, rfl⟩) (by assumption) ?_
          try simp only [Act.put, List.setIfInBounds_toArray, List.set_cons_zero, List.set_cons_succ]
          refine wpAnyH_take (i := 16) (v := (.bool true)) rfl (by kernel_rfl) (by kernel_rfl) (by kernel_rfl) (fun _ _ _ h => h) (Or.inl ⟨by kernel_rfl, ?_⟩) (by assumption) ?_
          · (intro wq hSw; obtain ⟨s0, s1, s2, s3, s4⟩ := hSw; go_simp)
          try simp only [Act.put, List.setIfInBounds_toArray, List.set_cons_zero, List.set_cons_succ]
          refine wpAnyH_done (by kernel_rfl) ?_ _
          go_simp
          go_wp2_with fail
          go_ret
          exact ⟨by rw [FIN.out]; simp, Kp.trans HKW.out hk3⟩
    · have FIN : Hid (E = ((fl : Int) == ((1 : Nat) : Int))) := Lib.hid (by rw [HFL.out]; exact HEND.out i fr HEQ.out (by omega))
      go_wp2_with fail
      go_ret
      exact ⟨by rw [FIN.out]; simp, HROW.out.kp⟩
end By
end Go.Proofs.YtmflgfojicaecaaGreatDoor
