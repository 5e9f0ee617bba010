/- slices.SortFunc over a row of changes of one's own, by the paths. Condition: at most a million changes. -/
import Derived.Test.YtfobogcccbddbaaGreatDoorSrt
import Derived.Test.YtfobogcccbddbaaGreatDoorShelf
import Derived.Test.YtfobogcccbddbaaGreatDoorZaq
import Derived.Test.YtfobogcccbddbaaGreatDoorZal
import Derived.Shelf.SlSortCmp.NoneTotal
import Derived.Test.YtfobogcccbddbaaGreatDoorZaf
import Derived.Test.YtfobogcccbddbaaGreatDoorZbb
import Derived.Laws.AppendOwnNone
import Derived.Deep.CutRange
import Derived.Test.YtfobogcccbddbaaGreatDoorZap
import Derived.Test.YtfobogcccbddbaaGreatDoorZan
namespace Go.Proofs.YtfobogcccbddbaaGreatDoor
namespace By
open Go.RowKit WireN LexN RevN FdN
open Go.Sort

set_option linter.unusedVariables false
set_option linter.unusedSimpArgs false

/-- A change's cells. -/
def encC (x : Ch) : List Value := [.int .i64 x.1, .string (st x.2.1), .string (st x.2.2.1), .string (st x.2.2.2)]
/-- What the program's closure answers. -/
def cfC (x y : Ch) : Int := Go.Lib.compareBytes (st x.2.1).data.toList (st y.2.1).data.toList
theorem cfC_nrm (x y : Ch) : cfC x y = cps (bs (st x.2.1)) (bs (st y.2.1)) := by
  unfold cfC
  rw [← cmpB_st (bs_lt _) (bs_lt _), st_bs, st_bs]
theorem ltC_nrm (x y : Ch) : ltOf cfC x y = lss (bs (st x.2.1)) (bs (st y.2.1)) := by
  unfold ltOf
  rw [cfC_nrm]
  unfold cps
  cases h : lss (bs (st x.2.1)) (bs (st y.2.1)) with
  | true => simp
  | false => by_cases h2 : lss (bs (st y.2.1)) (bs (st x.2.1)) = true <;> simp [h2]
theorem ltC {x y : Ch} (hx : ChOk x) (hy : ChOk y) : ltOf cfC x y = lss x.2.1 y.2.1 := by
  rw [ltC_nrm, bs_st hx.2.1.1, bs_st hy.2.1.1]
theorem swoC : SWO (ltOf cfC) where
  irrefl x := by rw [ltC_nrm]; exact lss_self _
  trans x y z h1 h2 := by rw [ltC_nrm] at *; exact lss_trans h1 h2
  ntrans x y z h1 h2 := by
    rw [ltC_nrm] at *
    by_cases e : bs (st x.2.1) = bs (st y.2.1)
    · rw [e]; exact h2
    · have h3 := lss_total h1 e
      cases h : lss (bs (st x.2.1)) (bs (st z.2.1)) with
      | false => rfl
      | true => rw [lss_trans h3 h] at h2; cases h2
set_option maxHeartbeats 1000000 in
/-- The closure, in whatever world. -/
theorem closureC (x y : Ch) (W : World) : Calls Tryz.prog 30 #[.agg #[.int .i64 x.1, .string (st x.2.1), .string (st x.2.2.1), .string (st x.2.2.2)], .agg #[.int .i64 y.1, .string (st y.2.1), .string (st y.2.2.1), .string (st y.2.2.2)]] W
    fun e w' => e = .returned (.int .i64 (cfC x y)) ∧ ∃ q os', w' = grow (W.drewN q) os' := by
  have hcon := fun W' => Tryz.strings_Compare (st x.2.1) (st y.2.1) W'
  unfold cfC
  generalize Go.Lib.compareBytes (st x.2.1).data.toList (st y.2.1).data.toList = r at hcon ⊢
  generalize st x.2.1 = x1 at hcon ⊢
  generalize st x.2.2.1 = x2
  generalize st x.2.2.2 = x3
  generalize st y.2.1 = y1 at hcon ⊢
  generalize st y.2.2.1 = y2
  generalize st y.2.2.2 = y3
  go_enter Tryz.func30, Tryz.ntmps30
  go_wp2_with (go_at_call 31; refine (hcon _).mono ?_; rintro e w' ⟨rfl, rfl⟩)
  go_ret
  exact ⟨rfl, 0, _, by rw [alloc_eq_grow, alloc_eq_grow, grow_grow]; rfl⟩
theorem cmpLaysC (blk off size : Nat) (w : World) : CmpLays Tryz.prog 30 #[] encC 4 cfC blk off size w := fun _ _ _ _ x y => closureC x y _
theorem flatC (D : List Ch) : (flatK encC 4 D.toArray).toList = ccel D := by
  have hl := ccel_len D
  refine List.ext_getElem? fun t => ?_
  by_cases ht : t < 4 * D.length
  · have h1 : (flatK encC 4 D.toArray).toList[t]? = some ((flatK encC 4 D.toArray)[t]!) := by
      rw [Array.getElem?_toList, getElem!_pos _ t (by rw [size_flatK, List.size_toArray]; omega)]
      exact Array.getElem?_eq_getElem _
    have hj : t / 4 < D.length := by omega
    obtain ⟨x, hx⟩ : ∃ x, D[t / 4]? = some x := ⟨_, List.getElem?_eq_getElem hj⟩
    have hx2 : D.toArray[t / 4]! = x := by
      rw [getElem!_pos _ _ (by simpa using hj), List.getElem_toArray]
      rw [List.getElem?_eq_getElem hj] at hx
      injection hx
    rw [h1, get_flatK _ _ _ _ (by rw [List.size_toArray]; omega), hx2]
    obtain ⟨c0, c1, c2, c3⟩ := ccel_at D (t / 4) x hx
    have e : t = t / 4 * 4 + t % 4 := by omega
    have h4 : t % 4 = 0 ∨ t % 4 = 1 ∨ t % 4 = 2 ∨ t % 4 = 3 := by omega
    rcases h4 with h4 | h4 | h4 | h4
    · rw [h4]; conv => rhs; rw [e, h4, Nat.add_zero, c0]
      rfl
    · rw [h4]; conv => rhs; rw [e, h4, c1]
      rfl
    · rw [h4]; conv => rhs; rw [e, h4, c2]
      rfl
    · rw [h4]; conv => rhs; rw [e, h4, c3]
      rfl
  · rw [List.getElem?_eq_none (by rw [Array.length_toList, size_flatK, List.size_toArray]; omega), List.getElem?_eq_none (by omega)]
theorem putCells_front (F : Array Value) (rest : List Value) (old : List Value) (h : old.length = F.size) : putCells id 0 F (old ++ rest).toArray = (F.toList ++ rest).toArray := by
  apply Array.ext_getElem?
  intro t
  unfold putCells
  rw [Array.getElem?_mapIdx]
  by_cases ht : t < F.size
  · have h1 : (old ++ rest).toArray[t]? = some (old[t]'(by omega)) := by
      rw [List.getElem?_toArray, List.getElem?_append_left (by omega)]
      exact List.getElem?_eq_getElem _
    have h2 : (F.toList ++ rest).toArray[t]? = some F[t]! := by
      rw [List.getElem?_toArray, List.getElem?_append_left (by simpa using ht), Array.getElem?_toList, getElem!_pos F t ht]
      exact Array.getElem?_eq_getElem _
    rw [h1, h2, Option.map_some, if_pos ⟨Nat.zero_le _, by omega⟩]
    rfl
  · rw [List.getElem?_toArray, List.getElem?_toArray, List.getElem?_append_right (by omega), List.getElem?_append_right (by simp; omega), h]
    cases hr : rest[t - F.size]? with
    | none => simp [hr]
    | some v => simp [hr]; omega
/-- The world behind the sort. -/
theorem sort_world {w : World} {g c n : Nat} {D : List Ch} {d : Array Ch} {os : Array Obj} (h : RCc w g c D) (hs : d.size = D.length) :
    RCc (sortWorldK encC 4 w g 0 n d os) g c d.toList ∧ w.grownBy (sortWorldK encC 4 w g 0 n d os) (some g) := by
  obtain ⟨rest, hb, h2⟩ := h
  have hl := ccel_len D
  have hld := ccel_len d.toList
  have hgl : g < w.heap.size := Blk.lt hb
  have hbo : w.heap[g]? = some (.cells (ccel D ++ rest).toArray 50 (0, 0)) := hb
  have hh : ∀ i, (sortWorldK encC 4 w g 0 n d os).heap[i]? = if i < w.heap.size then (if g = i then some (.cells (ccel d.toList ++ rest).toArray 50 (0, 0)) else w.heap[i]?) else os[i - w.heap.size]? := by
    intro i
    show ((w.heap.modify g (onCells (putCells id 0 (flatK encC 4 d)))) ++ os)[i]? = _
    rw [Array.getElem?_append, Array.size_modify]
    by_cases hi : i < w.heap.size
    · rw [if_pos hi, if_pos hi, Array.getElem?_modify]
      by_cases e : g = i
      · subst e
        rw [if_pos rfl, if_pos rfl, hbo]
        have hfl := flatC d.toList
        rw [Array.toArray_toList] at hfl
        show some (Obj.cells (putCells id 0 (flatK encC 4 d) (ccel D ++ rest).toArray) _ _) = _
        rw [putCells_front _ _ _ (by rw [size_flatK]; omega), hfl]
      · rw [if_neg e, if_neg e]
    · rw [if_neg hi, if_neg hi]
  have hsz : (sortWorldK encC 4 w g 0 n d os).heap.size = w.heap.size + os.size := by
    show ((w.heap.modify g _) ++ os).size = _
    rw [Array.size_append, Array.size_modify]
  refine ⟨⟨rest, ?_, by rw [hld, Array.length_toList]; omega⟩, ⟨rfl, rfl, rfl, by omega, fun k hk hne => ?_⟩⟩
  · show (sortWorldK encC 4 w g 0 n d os).heap[g]? = _
    rw [hh, if_pos hgl, if_pos rfl]
  · rw [hh, if_pos hk, if_neg (fun e => hne (by rw [e]))]
set_option maxRecDepth 100000 in
theorem isAggC (w : World) : (isAgg 50).run Tryz.prog w = .ok true w := Tryz.isAgg50 w
theorem sizeOfC (w : World) : (Go.sizeOf 50).run Tryz.prog w = .ok 4 w := Tryz.sizeOf50 w
set_option maxRecDepth 100000 in
set_option maxHeartbeats 2000000 in
theorem SortCh_any {w0 w : World} {v : Value} {D : List Ch} (h : OwC w0 w v D) (hl : D.length ≤ 1000000) :
    Calls Tryz.prog 29 #[v, .func (.func 30) #[] #[]] w fun e w' => e = .returned (.tuple #[]) ∧ ∃ d : List Ch, d.Perm D ∧ d.Pairwise (fun x y => lss y.2.1 x.2.1 = false) ∧ OwC w0 w' v d := by
  by_cases h0 : 0 < D.length
  · obtain ⟨g, c, rfl, hg, hlc, hcm, hrc⟩ := h.rcc h0
    have hrc' := hrc
    obtain ⟨rest, hb, hr2⟩ := hrc'
    have hld := ccel_len D
    have hH : HoldsK encC 4 w g 0 D.toArray := by
      intro j hj
      rw [size_flatK, List.size_toArray] at hj
      have hv : (flatK encC 4 D.toArray).toList[j]? = (ccel D)[j]? := by rw [flatC]
      rw [Array.getElem?_toList, Array.getElem?_eq_getElem (by rw [size_flatK, List.size_toArray]; exact hj)] at hv
      have hv2 : (flatK encC 4 D.toArray)[j]! = (flatK encC 4 D.toArray)[j]'(by rw [size_flatK, List.size_toArray]; exact hj) := getElem!_pos _ _ _
      refine ⟨?_, ?_⟩
      · rw [Nat.zero_add, hv2]
        exact hb.cell j (by rw [List.getElem?_toArray, List.getElem?_append_left (by omega)]; exact hv.symm)
      · rw [Nat.zero_add]
        exact hb.free j
    have eg : ∀ args w, (callFunc 30 args).run Tryz.prog w = .ok (.enter 30 args) w := enters_of Tryz.func30 (by kernel_rfl) rfl
    have hcon := AnyQ.slices_SortFunc Tryz.sort29 4 isAggC sizeOfC encC (fun _ => rfl) (fun x v hv => by simp [encC] at hv; rcases hv with rfl | rfl | rfl | rfl <;> rfl) cfC swoC 30 #[] g 0 c D.toArray w eg (cmpLaysC g 0 D.toArray.size w) hH hb.lt (by rw [List.size_toArray]; omega)
    rw [List.size_toArray] at hcon
    refine Calls.mono hcon ?_
    rintro e w' ⟨rfl, d', n, os, hp, hs, rfl⟩
    have hsz : d'.size = D.length := by rw [hp.1, List.size_toArray]
    obtain ⟨k1, k2⟩ := sort_world (n := n) (os := os) hrc hsz
    have hperm : d'.toList.Perm D := by
      have := hp.2.2
      rw [Array.toList_extract, Array.toList_extract] at this
      simp only [List.extract_eq_take_drop, List.drop_zero, Nat.sub_zero] at this
      rw [List.take_of_length_le (by rw [Array.length_toList]; omega), List.take_of_length_le (by simp)] at this
      exact this
    have hok : ∀ x ∈ d'.toList, ChOk x := fun x hx => h.ok x (hperm.mem_iff.1 hx)
    refine ⟨rfl, d'.toList, hperm, ?_, ?_⟩
    · rw [List.pairwise_iff_getElem]
      intro i j hi hj hij
      rw [Array.length_toList] at hi hj
      have h3 := hs i j (Nat.zero_le _) hij (by omega)
      rw [getElem!_pos d' i hi, getElem!_pos d' j hj, ltC (hok _ (by simp)) (hok _ (by simp))] at h3
      exact h3
    · have := k1.own (w := w0) (n := D.length) (by rw [Array.length_toList]; exact hsz) hlc hcm hg (Below.grown h.kp k2 h.kp.size (fun r hr => by injection hr with hr; omega)) hok
      exact this
  · have e0 : D = [] := List.length_eq_zero_iff.1 (by omega)
    subst e0
    obtain ⟨⟨a, b, c, rfl⟩, -⟩ := row_form h.owns
    have hb : b = 0 := by
      rcases h.owns.2 with ⟨e, -⟩ | ⟨g, cap, cur, e, -⟩
      · simp only [Value.slice.injEq] at e; exact e.2.1
      · simp only [Value.slice.injEq] at e; exact e.2.1
    subst hb
    have hcon := AnyF.slices_SortFunc_none { Tryz.sort29 with } a c (.func (.func 30) #[] #[]) w
    refine Calls.mono hcon ?_
    rintro e w' ⟨rfl, rfl⟩
    exact ⟨rfl, [], .refl _, List.Pairwise.nil, h⟩
end By
end Go.Proofs.YtfobogcccbddbaaGreatDoor

/- The program's Diff. Condition: a package variable of the library holds some integer. -/
namespace Go.Proofs.YtfobogcccbddbaaGreatDoor
namespace By
open Go.RowKit WireN LexN RevN FdN CtN
set_option linter.unusedVariables false
set_option linter.unusedSimpArgs false

set_option maxRecDepth 100000 in
/-- append of all changes of a slice, be there none, to a row of one's own, as a step of a region. -/
theorem step_chz {w wx : World} {ops : Array Oper} {o : Oper} {a : Act} {K : Act → World → Prop} {Q : Exit → Act → World → Prop} {E : Prop} (hgd : o.guard = none) (s x : Operand)
    (ho : o.op = .call { callee := .builtin .append, args := #[s, x], argTypes := #[33, 33] })
    (v : Value) {ks : List Ch} (hs : a.eval s = v) (hown : OwC w wx v ks) (hsm : ks.length ≤ 1000000) {vx : Value} {us : List Ch} (hx : a.eval x = vx) (hT : Cw wx vx us) (hu1 : us.length ≤ 1000000)
    (h : ∀ v' w', OwC w w' v' (ks ++ us) → K (a.put o.dst v') w') :
    if Region.wanted o (yielded ops a.tmps) = true then Oper.wp Tryz.prog o a wx K Q else E := by
  have hw : Region.wanted o (yielded ops a.tmps) = true := by simp [Region.wanted, hgd]
  rw [if_pos hw]
  obtain ⟨i, hi, hz, hsize, hby⟩ := info_parts infoCh
  obtain ⟨ao, cap, rfl, hc, hm, hnone⟩ := hT.open3
  have hcu : (ccel us).length = 4 * us.length := ccel_len us
  have hrun : ∃ v' w', (Builtin.append_ #[33, 33] o.type #[v, .slice ao us.length cap]).run Tryz.prog wx = .ok v' w' ∧ OwC w w' v' (ks ++ us) := by
    cases ao with
    | none =>
      obtain rfl : cap = 0 := hnone rfl
      obtain rfl : us = [] := List.length_eq_zero_iff.1 (by omega)
      have hr := run_append_owned_none (P := Tryz.prog) (w := wx) w.heap.size 33 o.type _ i 4 Tryz.underlying33 hi v ks.length (ccel ks) hown.owns
      exact ⟨v, wx, hr, by rw [List.append_nil]; exact hown⟩
    | some ad =>
      have hcells : ∀ (j : Nat) (u : Value), (ccel us)[j]? = some u → wx.cell? (ad.add j) = some u := by
        intro j u hj
        have hpos : 0 < us.length := by
          have := (List.getElem?_eq_some_iff.1 hj).1
          omega
        obtain ⟨b, off, e, hcell⟩ := hT.cell hpos
        injection e with e
        subst e
        rw [Addr.add_lit]
        exact ccel_cell hcell j u hj
      obtain ⟨v', w', hr, h2, h3, h4, h5⟩ := run_append_own_at (P := Tryz.prog) wx w.heap.size 33 o.type _ i _ 4 56 Tryz.underlying33 hi hz hsize hby rfl (by omega) v ks.length (ccel ks) hown.owns ad us.length cap (ccel us) (by rw [hcu]; omega) hcells (fun u hu => by
        rcases ccel_flat u hu with ⟨z, rfl⟩ | ⟨z, rfl⟩ <;> rfl) (by unfold maxLen; omega) (by omega) hown.kp.size
      refine ⟨v', w', hr, ⟨by rw [List.length_append, ccel_app]; exact h2, fun y hy => ?_, Below.grown hown.kp h3 hown.kp.size (fun k hk => ((row_form hown.owns).2 k hk).1)⟩⟩
      rcases List.mem_append.1 hy with hy | hy
      · exact hown.ok y hy
      · exact hT.ok y hy
  obtain ⟨v', w', hr, h2⟩ := hrun
  unfold Oper.wp
  simp [execOp, ho, resolve, invoke, builtin, hs, hx, hr, Result.andThen]
  exact h v' w' h2
set_option maxRecDepth 100000 in
set_option maxHeartbeats 16000000 in
theorem diff_any : DiffC := by
  intro w va vb a b hmx ha hb
  obtain ⟨Q, hQ⟩ : ∃ Q, Q = ChgA w (difE a b, difA a b) := ⟨_, rfl⟩
  rw [← hQ]
  have FIN : Hid (∀ (u : Value) (E : Nat) (w' : World), E = difE a b → Cw w' u (difA a b) → (∀ c, u.ownBlock = some c → w.heap.size ≤ c) → Kp w w' → Q (.returned (.tuple #[u, .int .i64 (E : Nat)])) w') := Lib.hid (by
    intro u E w' h1 h2 h3 h4
    rw [hQ]
    exact ⟨u, by rw [h1], h2, h3, h4⟩)
  obtain ⟨W, hW⟩ : ∃ W, W = (w.alloc (.cells #[va] 25)).alloc (.cells #[vb] 25) := ⟨_, rfl⟩
  have hk0 : Kp w W := by rw [hW]; exact Kp.alloc (kp_alloc _ _) _
  have b1 : Blk W w.heap.size 25 #[va] := by rw [hW]; exact (Blk.new _ _ _).keep (kp_alloc _ _)
  have b2 : Blk W (w.heap.size + 1) 25 #[vb] := by
    have := Blk.new (w.alloc (.cells #[va] 25)) 25 #[vb]
    rw [hW]
    simpa using this
  obtain ⟨p0, hp0⟩ : ∃ p, p = w.heap.size := ⟨_, rfl⟩
  obtain ⟨p1, hp1⟩ : ∃ p, p = w.heap.size + 1 := ⟨_, rfl⟩
  rw [← hp0] at b1
  rw [← hp1] at b2
  have HA := Lib.hid (ha.keep hk0); have HB := Lib.hid (hb.keep hk0)
  obtain ⟨E1, hE1⟩ : ∃ E, E = chk a := ⟨_, rfl⟩
  obtain ⟨E2, hE2⟩ : ∃ E, E = chk b := ⟨_, rfl⟩
  have HCA := Lib.hid (Check_any HA.out (hmx.keep hk0))
  have HCB : Hid (∀ w1, Kp W w1 → Calls Tryz.prog 24 #[.agg #[vb]] w1 fun e w' => e = .returned (.int .i64 (E2 : Nat)) ∧ Kp w1 w') := Lib.hid (fun w1 hk => by rw [hE2]; exact Check_any (HB.out.keep hk) (hmx.keep (hk0.trans hk)))
  rw [← hE1] at HCA
  have HE1 := Lib.hid hE1; have HE2 := Lib.hid hE2
  obtain ⟨ao, ac, rfl, hac, -, -⟩ := ha.open3
  obtain ⟨bo, bc, rfl, hbc, -, -⟩ := hb.open3
  obtain ⟨n, hn⟩ : ∃ n, n = a.length := ⟨_, rfl⟩
  obtain ⟨m, hm⟩ : ∃ m, m = b.length := ⟨_, rfl⟩
  rw [← hn] at hW b1 HA HCA hac ⊢
  rw [← hm] at hW b2 HB HCB hbc ⊢
  have HW := Lib.hid hW; have HK := Lib.hid hk0; have HB1 := Lib.hid b1; have HB2 := Lib.hid b2; have HP0 := Lib.hid hp0; have HP1 := Lib.hid hp1
  have c0 := b1.cell 0 rfl
  have HN := Lib.hid hn; have HM := Lib.hid hm
  clear ha hb hk0 b1 b2 hE1 hE2 hac hbc hn hm hQ hmx
  rw [hW, hp0] at c0
  clear hW hp0 hp1
  by_cases he1 : E1 = 0
  · have q1 : ((E1 : Int) != 0) = false := by simp [he1]
    have HZ1 : Hid (chk a = 0) := Lib.hid (HE1.out ▸ he1)
    clear he1
    by_cases he2 : E2 = 0
    · have q2 : ((E2 : Int) != 0) = false := by simp [he2]
      have HZ2 : Hid (chk b = 0) := Lib.hid (HE2.out ▸ he2)
      clear he2
      have HNL : Hid (a.length ≤ 64 ∧ b.length ≤ 64) := Lib.hid ⟨(chk_ok HZ1.out).1, (chk_ok HZ2.out).1⟩
      have FINE : Hid (difE a b = 0 ∧ difA a b = difL a b) := Lib.hid ⟨difE_ok HZ1.out HZ2.out, difA_ok HZ1.out HZ2.out⟩
      go_enter Tryz.func9, Tryz.ntmps9
      go_wp2_with fail
      rw [← HP1.out, ← HP0.out, ← HW.out]
      refine HCA.out.mono ?_
      rintro e w1 ⟨rfl, hk1⟩
      have HK1 := Lib.hid hk1
      have c1 := (HB2.out.keep hk1).cell 0 rfl
      clear hk1 c0
      go_wp2_with fail
      refine (HCB.out _ HK1.out).mono ?_
      rintro e w2 ⟨rfl, hk2⟩
      have HK2 := Lib.hid (HK1.out.trans hk2)
      clear hk2 c1
      go_upto_region 3 with fail
      go_cut [6, 7] from 19 (fun x y wx => ∃ mb mc, x = .map (some mb) ∧ y = .map (some mc) ∧ Hid (TM wx mb a.length (fm0 a)) ∧ Hid (TM wx mc b.length (fm0 b)) ∧ Kp w2 wx)
      case first =>
        have HTA : Hid (∀ Wx, Kp w2 Wx → Calls Tryz.prog 25 #[.agg #[.slice ao n ac]] Wx fun e w' => ∃ mb, e = .returned (.map (some mb)) ∧ TM w' mb a.length (fm0 a) ∧ Kp Wx w') := Lib.hid (fun Wx hk => (table_any (HA.out.keep (HK2.out.trans hk)) (by have := HNL.out; omega)).mono fun e w' ⟨mb, h1, h2, h3, h4⟩ => ⟨mb, h1, by rw [fmA_ok HZ1.out] at h3; exact h3, h4⟩)
        have HTB : Hid (∀ Wx, Kp w2 Wx → Calls Tryz.prog 25 #[.agg #[.slice bo m bc]] Wx fun e w' => ∃ mb, e = .returned (.map (some mb)) ∧ TM w' mb b.length (fm0 b) ∧ Kp Wx w') := Lib.hid (fun Wx hk => (table_any (HB.out.keep (HK2.out.trans hk)) (by have := HNL.out; omega)).mono fun e w' ⟨mb, h1, h2, h3, h4⟩ => ⟨mb, h1, by rw [fmA_ok HZ2.out] at h3; exact h3, h4⟩)
        have HSS : Hid (∀ Wx, Kp w2 Wx → Wx.cell? ⟨p0, 0, none⟩ = some (.slice ao n ac) ∧ Wx.cell? ⟨p1, 0, none⟩ = some (.slice bo m bc) ∧ Kp w2 Wx) := Lib.hid (fun Wx hk => ⟨(HB1.out.keep (HK2.out.trans hk)).cell 0 rfl, (HB2.out.keep (HK2.out.trans hk)).cell 0 rfl, hk⟩)
        have K0 : Kp w2 w2.drew := ⟨rfl, rfl, rfl, Nat.le_refl _, fun _ _ => rfl⟩
        go_region_held3 (fun w' => w'.cell? ⟨p0, 0, none⟩ = some (.slice ao n ac) ∧ w'.cell? ⟨p1, 0, none⟩ = some (.slice bo m bc) ∧ Kp w2 w')
          (first | exact HSS.out _ kb5 | exact HSS.out _ ka5 | exact HSS.out _ kb4 | exact HSS.out _ ka4 | exact HSS.out _ K0)
          (first
            | (go_at_call_of 25 (Value.agg #[.slice ao n ac]); refine (HTA.out _ kb4).mono ?_; rintro e w5 ⟨ma, rfl, ta5, hk5⟩; have ka5 := kb4.trans hk5; have tb5 := tb4.keep hk5; clear hk5)
            | (go_at_call_of 25 (Value.agg #[.slice bo m bc]); refine (HTB.out _ ka4).mono ?_; rintro e w5 ⟨mc, rfl, tb5, hk5⟩; have kb5 := ka4.trans hk5; have ta5 := ta4.keep hk5; clear hk5)
            | (go_at_call_of 25 (Value.agg #[.slice ao n ac]); refine (HTA.out _ K0).mono ?_; rintro e w4 ⟨ma, rfl, ta4, hk4⟩; have ka4 := K0.trans hk4; clear hk4)
            | (go_at_call_of 25 (Value.agg #[.slice bo m bc]); refine (HTB.out _ K0).mono ?_; rintro e w4 ⟨mc, rfl, tb4, hk4⟩; have kb4 := K0.trans hk4; clear hk4)
            | fail "no arm")
        all_goals (go_wp2_with fail; go_meet; exact ⟨ma, mc, rfl, rfl, Lib.hid ta5, Lib.hid tb5, by first | exact ka5 | exact kb5⟩)
      case rest =>
        obtain ⟨mb, mc, rfl, rfl, HTB, HTC, hkc⟩ := hcut
        have HKC := Lib.hid (HK2.out.trans hkc)
        have c3 := (HB2.out.keep HKC.out).cell 0 rfl
        have HCG := Lib.hid (changed_any (HB.out.keep HKC.out) HZ1.out HZ2.out (fun f hf => (HA.out.lt f hf).2) HTB.out)
        clear hkc
        go_wp2_with fail
        refine HCG.out.mono ?_
        rintro e w4 ⟨u4, rfl, ho4⟩
        have HO4 := Lib.hid ho4
        obtain ⟨⟨x1, x2, x3, rfl⟩, -⟩ := row_form ho4.owns
        have HK4 := Lib.hid (HKC.out.trans ho4.kp)
        have K0 : Kp w4 w4.drew := ⟨rfl, rfl, rfl, Nat.le_refl _, fun _ _ => rfl⟩
        have HSS : Hid (∀ Wx, Kp wc Wx → Wx.cell? ⟨p0, 0, none⟩ = some (.slice ao n ac) ∧ Wx.cell? ⟨p1, 0, none⟩ = some (.slice bo m bc)) := Lib.hid (fun Wx hk => ⟨(HB1.out.keep (HKC.out.trans hk)).cell 0 rfl, (HB2.out.keep (HKC.out.trans hk)).cell 0 rfl⟩)
        have HW1 : Hid (∀ Wx, Kp w4 Wx → Calls Tryz.prog 28 #[.agg #[.slice ao n ac], .map (some mc)] Wx fun e w' => ∃ u, e = .returned u ∧ OwF Wx w' u (gn a b)) := Lib.hid (fun Wx hk => withoutF_any (HA.out.keep (HK4.out.trans hk)) (by have := HNL.out; omega) (HTC.out.keep (HO4.out.kp.trans hk)))
        have HW2 : Hid (∀ Wx, Kp w4 Wx → Calls Tryz.prog 28 #[.agg #[.slice bo m bc], .map (some mb)] Wx fun e w' => ∃ u, e = .returned u ∧ OwF Wx w' u (gn b a)) := Lib.hid (fun Wx hk => withoutF_any (HB.out.keep (HK4.out.trans hk)) (by have := HNL.out; omega) (HTB.out.keep (HO4.out.kp.trans hk)))
        have HMV : Hid (∀ (Wx : World) (ur ua : Value), Rw Wx ur (gn a b) → Rw Wx ua (gn b a) → Calls Tryz.prog 27 #[ur, ua] Wx fun e w' => ∃ u, e = .returned u ∧ OwC Wx w' u (mvL (gn a b) (gn b a))) := Lib.hid (fun Wx ur ua h1 h2 =>
          moved_any h1 h2 (by have := gn_len a b; have := HNL.out; omega) (by have := gn_len b a; have := HNL.out; omega) (fun f hf => sm2 HZ1.out (List.mem_filter.1 hf).1) (fun f hf => sm2 HZ2.out (List.mem_filter.1 hf).1) (List.Pairwise.filter _ (dstn (chk_ok HZ1.out).2)))
        have HLC : Hid ((chg a b).length ≤ 1000000) := Lib.hid (by have := chg_len a b; have := HNL.out; omega)
        have HLM : Hid ((mvL (gn a b) (gn b a)).length ≤ 1000) := Lib.hid (by
          have h1 := mv_len (gn a b) (gn b a) (List.replicate (gn a b).length false, [])
          have h2 := rmL_len (gn a b) (mv1 (gn a b) (gn b a)).1 (gn a b).length
          have h3 := gn_len a b; have h4 := gn_len b a; have := HNL.out
          have h5 : (mv1 (gn a b) (gn b a)).2.length = (gn b a).length := by have := h1.2; rw [List.length_nil, Nat.zero_add] at this; exact this
          unfold mvL
          rw [List.length_append, h5]
          omega)
        clear ho4 c3
        go_upto_region 5 with fail
        go_region_held3 (fun w' => w'.cell? ⟨p0, 0, none⟩ = some (.slice ao n ac) ∧ w'.cell? ⟨p1, 0, none⟩ = some (.slice bo m bc))
          (first | exact HSS.out _ ho8.kp | exact HSS.out _ (HO4.out.kp.trans k7) | exact HSS.out _ (HO4.out.kp.trans k6) | exact HSS.out _ (HO4.out.kp.trans k5) | exact HSS.out _ (HO4.out.kp.trans K0))
          (first
            | (refine step_chz (w := wc) rfl (.tmp 26) (.tmp 33) rfl _ rfl (HO4.out.keep k7) HLC.out rfl ho7.cw (by have := HLM.out; omega) ?_; intro u8 w8 ho8)
            | (go_at_call 27; refine (HMV.out _ _ _ (ho5.keep ho6.kp).rw ho6.rw).mono ?_; rintro e w7 ⟨u7, rfl, ho7⟩; have k7 := k6.trans ho7.kp)
            | (go_at_call_of 28 (Value.agg #[.slice bo m bc]); refine (HW2.out _ k5).mono ?_; rintro e w6 ⟨u6, rfl, ho6⟩; have k6 := k5.trans ho6.kp)
            | (go_at_call_of 28 (Value.agg #[.slice ao n ac]); refine (HW1.out _ K0).mono ?_; rintro e w5 ⟨u5, rfl, ho5⟩; have k5 := K0.trans ho5.kp)
            | fail "no arm")
        have HO8 := Lib.hid ho8
        obtain ⟨⟨y1, y2, y3, rfl⟩, -⟩ := row_form ho8.owns
        have HS := Lib.hid (SortCh_any ho8 (by rw [List.length_append]; have := HLM.out; have := chg_len a b; have := HNL.out; omega))
        have HLL : Hid ((chg a b ++ mvL (gn a b) (gn b a)).length ≤ 2000) := Lib.hid (by rw [List.length_append]; have := HLM.out; have := chg_len a b; have := HNL.out; omega)
        clear k5 k6 k7 ho5 ho6 ho7 ho8 K0
        go_wp2_with fail
        refine HS.out.mono ?_
        rintro e w9 ⟨rfl, d, hdp, hds, ho9⟩
        have hd : d = difL a b := dif_sorted HZ1.out HZ2.out hdp hds
        have HDL : Hid (d.length ≤ 2000) := Lib.hid (by rw [hdp.length_eq]; exact HLL.out)
        have HD := Lib.hid hd
        have HO9 := Lib.hid ho9
        obtain ⟨ao9, ac9, he9, hc9, hm9, -⟩ := ho9.cw.open3
        simp only [Value.slice.injEq] at he9
        obtain ⟨rfl, rfl, rfl⟩ := he9
        obtain ⟨N, hN⟩ : ∃ N, N = d.length := ⟨_, rfl⟩
        rw [← hN] at HO9 hc9
        have HNN := Lib.hid hN
        have i5 : (N : Int) ≤ (y3 : Int) := by omega
        have i6 : (N : Int) ≤ 2000 := by have := HDL.out; omega
        clear hd hdp hds ho9 hc9 hm9 hN
        try rw [← HNN.out]
        go_wp2_with fail
        go_loopw [39] (fun iv wy => ∃ (k : Nat), k ≤ N ∧ iv = .int .i64 k ∧ Hid (OwC wc wy (.slice y1 N y3) d)) (fun iv _ => N - (intOf iv).toNat)
        case atStart => exact ⟨0, Nat.zero_le _, rfl, HO9⟩
        case round =>
          obtain ⟨k, hk, rfl, HO⟩ := hrel
          rename World => wy
          by_cases hil : k < N
          · obtain ⟨x, hx⟩ : ∃ x, d[k]? = some x := ⟨_, List.getElem?_eq_getElem (by have := HNN.out; omega)⟩
            obtain ⟨g, c, hg, hgl, -, -, hrc⟩ := HO.out.rcc (by have := HNN.out; omega)
            simp only [Value.slice.injEq] at hg
            obtain ⟨rfl, -, -⟩ := hg
            obtain ⟨d0, d1, d2, d3⟩ := hrc.rc.cell hx
            have hxo := HO.out.ok x (List.mem_of_getElem? hx)
            have j1 : (k : Int) < (N : Int) := by omega
            obtain ⟨X1, hX1⟩ : ∃ S, S = st x.2.1 := ⟨_, rfl⟩
            obtain ⟨X2, hX2⟩ : ∃ S, S = st x.2.2.1 := ⟨_, rfl⟩
            obtain ⟨X3, hX3⟩ : ∃ S, S = st x.2.2.2 := ⟨_, rfl⟩
            have C1 : Hid (∀ Wx, Calls Tryz.prog 32 #[.string X1] Wx fun e w' => e = .returned (.string X1) ∧ Kp Wx w') := Lib.hid (fun Wx => by rw [hX1]; exact Clone_s ⟨hxo.2.1.1, hxo.2.2.1⟩ Wx)
            have C2 : Hid (∀ Wx, Calls Tryz.prog 32 #[.string X2] Wx fun e w' => e = .returned (.string X2) ∧ Kp Wx w') := Lib.hid (fun Wx => by rw [hX2]; exact Clone_s ⟨hxo.2.1.2.1, hxo.2.2.2.1⟩ Wx)
            have C3 : Hid (∀ Wx, Calls Tryz.prog 32 #[.string X3] Wx fun e w' => e = .returned (.string X3) ∧ Kp Wx w') := Lib.hid (fun Wx => by rw [hX3]; exact Clone_s ⟨hxo.2.1.2.2, hxo.2.2.2.2⟩ Wx)
            rw [← hX1] at d1
            rw [← hX2] at d2
            rw [← hX3] at d3
            obtain ⟨W3, hW3⟩ : ∃ W, W = wy.alloc (.cells #[.int .i64 x.1, .string X1, .string X2, .string X3] 50) := ⟨_, rfl⟩
            have hk3 : Kp wy W3 := by rw [hW3]; exact kp_alloc _ _
            obtain ⟨fb, hfb⟩ : ∃ b, b = wy.heap.size := ⟨_, rfl⟩
            have HFB : Hid (Blk W3 fb 50 #[.int .i64 x.1, .string X1, .string X2, .string X3]) := Lib.hid (by rw [hW3, hfb]; exact Blk.new _ _ _)
            obtain ⟨rest, hbr, -⟩ := hrc
            have HBR := Lib.hid (hbr.keep hk3)
            obtain ⟨-, e1, e2, e3⟩ := ccel_at d k x hx
            have hcl := ccel_len d
            have hkd : k < d.length := (List.getElem?_eq_some_iff.1 hx).1
            have HE1 : Hid ((ccel d ++ rest).toArray[k * 4 + 1]? = some (.string X1)) := Lib.hid (by rw [List.getElem?_toArray, List.getElem?_append_left (by omega), e1, hX1])
            have HE2 : Hid ((ccel d ++ rest).toArray[k * 4 + 2]? = some (.string X2)) := Lib.hid (by rw [List.getElem?_toArray, List.getElem?_append_left (by omega), e2, hX2])
            have HE3 : Hid ((ccel d ++ rest).toArray[k * 4 + 3]? = some (.string X3)) := Lib.hid (by rw [List.getElem?_toArray, List.getElem?_append_left (by omega), e3, hX3])
            have SAME : Hid (∀ Wx, Kp W3 Wx → Wx.setCell ⟨g, k * 4 + 1, none⟩ (.string X1) = Wx ∧ Wx.setCell ⟨g, k * 4 + 2, none⟩ (.string X2) = Wx ∧ Wx.setCell ⟨g, k * 4 + 3, none⟩ (.string X3) = Wx) := Lib.hid (fun Wx hk =>
              ⟨(HBR.out.keep hk).self HE1.out, (HBR.out.keep hk).self HE2.out, (HBR.out.keep hk).self HE3.out⟩)
            have HSS : Hid (∀ Wx, Kp W3 Wx → Wx.cell? ⟨fb, 1, none⟩ = some (.string X1) ∧ Wx.cell? ⟨fb, 2, none⟩ = some (.string X2) ∧ Wx.cell? ⟨fb, 3, none⟩ = some (.string X3) ∧
                Wx.cell? ⟨g, k * 4 + 1, none⟩ = some (.string X1) ∧ Wx.cell? ⟨g, k * 4 + 2, none⟩ = some (.string X2) ∧ Wx.cell? ⟨g, k * 4 + 3, none⟩ = some (.string X3) ∧
                Wx.frozen? ⟨g, k * 4 + 1, none⟩ = false ∧ Wx.frozen? ⟨g, k * 4 + 2, none⟩ = false ∧ Wx.frozen? ⟨g, k * 4 + 3, none⟩ = false) := Lib.hid (fun Wx hk =>
              ⟨(HFB.out.keep hk).cell 1 rfl, (HFB.out.keep hk).cell 2 rfl, (HFB.out.keep hk).cell 3 rfl, (HBR.out.keep hk).cell _ HE1.out, (HBR.out.keep hk).cell _ HE2.out, (HBR.out.keep hk).cell _ HE3.out, (HBR.out.keep hk).free _, (HBR.out.keep hk).free _, (HBR.out.keep hk).free _⟩)
            have K0 : Kp W3 W3.drew := ⟨rfl, rfl, rfl, Nat.le_refl _, fun _ _ => rfl⟩
            have HX : Hid (∀ Wx, Kp W3 Wx → OwC wc Wx (.slice (some ⟨g, 0, none⟩) N y3) d) := Lib.hid (fun Wx hk => (HO.out.keep hk3).keep hk)
            have HW3 := Lib.hid hW3; have HFE := Lib.hid hfb
            clear hx hgl hxo hX1 hX2 hX3 hk3 hW3 hfb hbr e1 e2 e3 hcl hkd
            go_upto_region 10 with fail
            rw [← HW3.out, ← HFE.out]
            clear d0 d1 d2 d3
            go_region_held3 (fun Wx => Wx.cell? ⟨fb, 1, none⟩ = some (.string X1) ∧ Wx.cell? ⟨fb, 2, none⟩ = some (.string X2) ∧ Wx.cell? ⟨fb, 3, none⟩ = some (.string X3) ∧
                Wx.cell? ⟨g, k * 4 + 1, none⟩ = some (.string X1) ∧ Wx.cell? ⟨g, k * 4 + 2, none⟩ = some (.string X2) ∧ Wx.cell? ⟨g, k * 4 + 3, none⟩ = some (.string X3) ∧
                Wx.frozen? ⟨g, k * 4 + 1, none⟩ = false ∧ Wx.frozen? ⟨g, k * 4 + 2, none⟩ = false ∧ Wx.frozen? ⟨g, k * 4 + 3, none⟩ = false)
              (first | exact HSS.out _ k7 | (simp only [(SAME.out _ k7).1, (SAME.out _ k7).2.1, (SAME.out _ k7).2.2]; exact HSS.out _ k7) | exact HSS.out _ k6 | exact HSS.out _ k5 | exact HSS.out _ K0)
              (first
                | (go_at_call_of 32 (Value.string X3); refine (C3.out w6).mono ?_; rintro e w7 ⟨rfl, hk7⟩; have k7 := k6.trans hk7; clear hk7)
                | (go_at_call_of 32 (Value.string X2); refine (C2.out w5).mono ?_; rintro e w6 ⟨rfl, hk6⟩; have k6 := k5.trans hk6; clear hk6)
                | (go_at_call_of 32 (Value.string X1); refine (C1.out _).mono ?_; rintro e w5 ⟨rfl, hk5⟩; have k5 := K0.trans hk5; clear hk5)
                | fail "no arm")
            have HK7 := Lib.hid k7
            simp only [(SAME.out _ k7).1, (SAME.out _ k7).2.1, (SAME.out _ k7).2.2]
            clear k5 k6 k7 K0
            go_wp2_with fail
            go_roundw
            case rel => exact ⟨k + 1, by omega, vint (by omega), Lib.hid (HX.out _ HK7.out)⟩
            case measure => simp [intOf]; omega
          · go_wp2_with fail
            have h1 := HO.out.cw
            refine FIN.out _ 0 _ FINE.out.1.symm (by rw [FINE.out.2, ← HD.out]; exact h1) (fun c hc => ?_) ((HK.out.trans HKC.out).trans HO.out.kp)
            have h2 := HO.out.newer c hc
            have h3 := HKC.out.size; have h4 := HK.out.size
            omega
    · have q2 : ((E2 : Int) != 0) = true := by simpa using he2
      have HNE : Hid (1 = difE a b ∧ difA a b = []) := Lib.hid (by
        have h : difE a b = 1 := if_pos (by rw [HE1.out.symm, HE2.out.symm]; simp [he2])
        refine ⟨h.symm, ?_⟩
        unfold difA
        rw [if_neg (by rw [h]; simp)])
      clear he2
      go_enter Tryz.func9, Tryz.ntmps9
      go_wp2_with fail
      rw [← HP1.out, ← HP0.out, ← HW.out]
      refine HCA.out.mono ?_
      rintro e w1 ⟨rfl, hk1⟩
      have HK1 := Lib.hid hk1
      have c1 := (HB2.out.keep hk1).cell 0 rfl
      clear hk1 c0
      go_wp2_with fail
      refine (HCB.out _ HK1.out).mono ?_
      rintro e w2 ⟨rfl, hk2⟩
      have HK2 := Lib.hid (HK1.out.trans hk2)
      clear hk2 c1
      go_wp2_with fail
      exact FIN.out _ 1 _ HNE.out.1 (by rw [HNE.out.2]; exact Cw.nil _) (fun c hc => by simp [Value.ownBlock] at hc) (HK.out.trans HK2.out)
  · have q1 : ((E1 : Int) != 0) = true := by simpa using he1
    have HNE : Hid (1 = difE a b ∧ difA a b = []) := Lib.hid (by
      have h : difE a b = 1 := if_pos (by rw [HE1.out.symm, HE2.out.symm]; simp [he1])
      refine ⟨h.symm, ?_⟩
      unfold difA
      rw [if_neg (by rw [h]; simp)])
    clear he1
    go_enter Tryz.func9, Tryz.ntmps9
    go_wp2_with fail
    rw [← HP1.out, ← HP0.out, ← HW.out]
    refine HCA.out.mono ?_
    rintro e w1 ⟨rfl, hk1⟩
    have HK1 := Lib.hid hk1
    clear hk1 c0
    go_wp2_with fail
    exact FIN.out _ 1 _ HNE.out.1 (by rw [HNE.out.2]; exact Cw.nil _) (fun c hc => by simp [Value.ownBlock] at hc) (HK.out.trans HK1.out)
end By
end Go.Proofs.YtfobogcccbddbaaGreatDoor

/- The paths that changes take and put, whether one comes twice, and the tests of a change, as the program has them. Condition: at most a thousand changes. -/
namespace Go.Proofs.YtfobogcccbddbaaGreatDoor
namespace FdN
open RevN
theorem ptL_snoc {l : List Ch} {k : Nat} {x : Ch} (h : l[k]? = some x) : ptL (l.take (k + 1)) = ptL (l.take k) ++ (if pts x = true then [x.2.1] else []) := by
  unfold ptL
  rw [List.take_add_one, h, List.filter_append, List.map_append]
  congr 1
  show (List.filter pts [x]).map _ = _
  rw [List.filter_cons]
  cases pts x <;> rfl
end FdN
namespace By
open Go.RowKit WireN LexN RevN FdN CtN
set_option linter.unusedVariables false
set_option linter.unusedSimpArgs false

theorem chok_tks {x : Ch} (h : ChOk x) {p : List Nat} (ht : tks x = some p) : TxOk p := by
  obtain ⟨-, ⟨h1, h2, h3⟩, h4, h5, h6⟩ := h
  unfold tks at ht
  split at ht
  · injection ht with ht; subst ht; exact ⟨h2, h5⟩
  · split at ht
    · injection ht with ht; subst ht; exact ⟨h1, h4⟩
    · cases ht
theorem puts_any (x : Ch) (w : World) : Calls Tryz.prog 40 #[.agg #[.int .i64 x.1, .string (st x.2.1), .string (st x.2.2.1), .string (st x.2.2.2)]] w fun e w' => e = .returned (.bool (pts x)) ∧ Kp w w' := by
  have HK0 := Lib.hid (kp_alloc w (.cells #[.int .i64 x.1, .string (st x.2.1), .string (st x.2.2.1), .string (st x.2.2.2)] 50))
  unfold pts
  obtain ⟨X1, hX1⟩ : ∃ S, S = st x.2.1 := ⟨_, rfl⟩
  obtain ⟨X2, hX2⟩ : ∃ S, S = st x.2.2.1 := ⟨_, rfl⟩
  obtain ⟨X3, hX3⟩ : ∃ S, S = st x.2.2.2 := ⟨_, rfl⟩
  obtain ⟨k, hk⟩ : ∃ k, k = x.1 := ⟨_, rfl⟩
  rw [← hX1, ← hX2, ← hX3, ← hk] at HK0 ⊢
  clear hX1 hX2 hX3 hk
  by_cases e : k = 2
  · have q : (k != 2) = false := by simp [e]
    have HF : Hid (decide (k ≠ 2) = false) := Lib.hid (decide_eq_false (fun h => h e))
    clear e
    go_enter Tryz.func40, Tryz.ntmps40
    go_wp2_with fail
    go_ret
    exact ⟨by rw [HF.out]; rfl, HK0.out⟩
  · have q : (k != 2) = true := by simp [e]
    have HF : Hid (decide (k ≠ 2) = true) := Lib.hid (decide_eq_true e)
    clear e
    go_enter Tryz.func40, Tryz.ntmps40
    go_wp2_with fail
    go_ret
    exact ⟨by rw [HF.out]; rfl, HK0.out⟩
set_option maxRecDepth 100000 in
theorem bytesOf_any {x : Ch} (hx : ChOk x) {w : World} {mb nn : Nat} {a : List Fl} (ha : chk a = 0) (hm : TM w mb nn (fm0 a)) :
    Calls Tryz.prog 41 #[.agg #[.int .i64 x.1, .string (st x.2.1), .string (st x.2.2.1), .string (st x.2.2.2)], .map (some mb)] w fun e w' => e = .returned (.string (st (putB a x))) ∧ Kp w w' := by
  have HK0 := Lib.hid (kp_alloc w (.cells #[.int .i64 x.1, .string (st x.2.1), .string (st x.2.2.1), .string (st x.2.2.2)] 50))
  have q0 := (hm.keep HK0.out).get1 hx.2.1.2.1 (show x.2.2.1.length ≤ maxLen by have := hx.2.2.2.1; unfold maxLen; omega)
  rw [fm0_find ha] at q0
  have hpb : putB a x = if x.1 = 4 then (findF a x.2.2.1).1 else x.2.2.2 := rfl
  obtain ⟨Z, hZ⟩ : ∃ S, S = st (findF a x.2.2.1).1 := ⟨_, rfl⟩
  obtain ⟨X1, hX1⟩ : ∃ S, S = st x.2.1 := ⟨_, rfl⟩
  obtain ⟨X2, hX2⟩ : ∃ S, S = st x.2.2.1 := ⟨_, rfl⟩
  obtain ⟨X3, hX3⟩ : ∃ S, S = st x.2.2.2 := ⟨_, rfl⟩
  obtain ⟨k, hk⟩ : ∃ k, k = x.1 := ⟨_, rfl⟩
  rw [← hX1, ← hX2, ← hX3, ← hk] at HK0 q0 ⊢
  rw [← hZ] at q0
  rw [← hk] at hpb
  have HX3 := Lib.hid hX3; have HZ := Lib.hid hZ
  have HPB := Lib.hid hpb
  clear hX1 hX2 hX3 hk hZ hpb ha hm hx
  by_cases e : k = 4
  · have q : (k == 4) = true := by simp [e]
    have HF : Hid (Z = st (putB a x)) := Lib.hid (by rw [HPB.out, if_pos e, HZ.out])
    clear e
    go_enter Tryz.func41, Tryz.ntmps41
    go_wp2_with fail
    go_ret
    exact ⟨by rw [← HF.out]; rfl, HK0.out⟩
  · have q : (k == 4) = false := by simp [e]
    have HF : Hid (X3 = st (putB a x)) := Lib.hid (by rw [HPB.out, if_neg e, HX3.out])
    clear e
    go_enter Tryz.func41, Tryz.ntmps41
    go_wp2_with fail
    go_ret
    exact ⟨by rw [← HF.out]; rfl, HK0.out⟩
theorem isE_st {p : List Nat} (h : Lt p) : (st p).toList.isEmpty = decide (p = []) := by
  rw [ByteArray.toList_eq]
  cases p with
  | nil => decide +kernel
  | cons a p => simp [st]
set_option maxRecDepth 100000 in
set_option maxHeartbeats 2000000 in
theorem isWrong_any {x : Ch} (hx : ChOk x) (w : World) : Calls Tryz.prog 67 #[.agg #[.int .i64 x.1, .string (st x.2.1), .string (st x.2.2.1), .string (st x.2.2.2)]] w fun e w' => e = .returned (.bool (!wel x)) ∧ Kp w w' := by
  have HK0 := Lib.hid (kp_alloc w (.cells #[.int .i64 x.1, .string (st x.2.1), .string (st x.2.2.1), .string (st x.2.2.2)] 50))
  have q2 := isE_st hx.2.1.2.1
  have q3 := isE_st hx.2.1.2.2
  obtain ⟨c2, hc2⟩ : ∃ c, c = decide (x.2.2.1 = []) := ⟨_, rfl⟩
  obtain ⟨c3, hc3⟩ : ∃ c, c = decide (x.2.2.2 = []) := ⟨_, rfl⟩
  have hw : wel x = if x.1 = 1 ∨ x.1 = 3 then c2 else if x.1 = 2 then c2 && c3 else if x.1 = 4 then c3 else false := by unfold wel; rw [hc2, hc3]
  rw [← hc2] at q2
  rw [← hc3] at q3
  obtain ⟨X1, hX1⟩ : ∃ S, S = st x.2.1 := ⟨_, rfl⟩
  obtain ⟨X2, hX2⟩ : ∃ S, S = st x.2.2.1 := ⟨_, rfl⟩
  obtain ⟨X3, hX3⟩ : ∃ S, S = st x.2.2.2 := ⟨_, rfl⟩
  obtain ⟨k, hk⟩ : ∃ k, k = x.1 := ⟨_, rfl⟩
  rw [← hX1, ← hX2, ← hX3, ← hk] at HK0 ⊢
  rw [← hX2] at q2
  rw [← hX3] at q3
  rw [← hk] at hw
  obtain ⟨V, hV⟩ : ∃ v, v = wel x := ⟨_, rfl⟩
  rw [← hV] at hw ⊢
  clear hX1 hX2 hX3 hk hx hc2 hc3 hV
  by_cases e1 : k = 1
  · subst e1
    cases c2 with
    | true =>
      have HF : Hid (V = true) := Lib.hid (by rw [hw]; simp)
      clear hw
      go_enter Tryz.func67, Tryz.ntmps67
      go_wp2_with fail
      go_ret
      exact ⟨by rw [HF.out]; rfl, HK0.out⟩
    | false =>
      have HF : Hid (V = false) := Lib.hid (by rw [hw]; simp)
      clear hw
      go_enter Tryz.func67, Tryz.ntmps67
      go_wp2_with fail
      go_ret
      exact ⟨by rw [HF.out]; rfl, HK0.out⟩
  · skip
    by_cases e3 : k = 3
    · subst e3
      cases c2 with
      | true =>
        have HF : Hid (V = true) := Lib.hid (by rw [hw]; simp)
        clear hw
        go_enter Tryz.func67, Tryz.ntmps67
        go_wp2_with fail
        go_ret
        exact ⟨by rw [HF.out]; rfl, HK0.out⟩
      | false =>
        have HF : Hid (V = false) := Lib.hid (by rw [hw]; simp)
        clear hw
        go_enter Tryz.func67, Tryz.ntmps67
        go_wp2_with fail
        go_ret
        exact ⟨by rw [HF.out]; rfl, HK0.out⟩
    · skip
      by_cases e2 : k = 2
      · subst e2
        cases c2 with
        | true =>
          cases c3 with
          | true =>
            have HF : Hid (V = true) := Lib.hid (by rw [hw]; simp)
            clear hw
            go_enter Tryz.func67, Tryz.ntmps67
            go_wp2_with fail
            go_ret
            exact ⟨by rw [HF.out]; rfl, HK0.out⟩
          | false =>
            have HF : Hid (V = false) := Lib.hid (by rw [hw]; simp)
            clear hw
            go_enter Tryz.func67, Tryz.ntmps67
            go_wp2_with fail
            go_ret
            exact ⟨by rw [HF.out]; rfl, HK0.out⟩
        | false =>
          have HF : Hid (V = false) := Lib.hid (by rw [hw]; simp)
          clear hw
          go_enter Tryz.func67, Tryz.ntmps67
          go_wp2_with fail
          go_ret
          exact ⟨by rw [HF.out]; rfl, HK0.out⟩
      · skip
        by_cases e4 : k = 4
        · subst e4
          cases c3 with
          | true =>
            have HF : Hid (V = true) := Lib.hid (by rw [hw]; simp)
            clear hw
            go_enter Tryz.func67, Tryz.ntmps67
            go_wp2_with fail
            go_ret
            exact ⟨by rw [HF.out]; rfl, HK0.out⟩
          | false =>
            have HF : Hid (V = false) := Lib.hid (by rw [hw]; simp)
            clear hw
            go_enter Tryz.func67, Tryz.ntmps67
            go_wp2_with fail
            go_ret
            exact ⟨by rw [HF.out]; rfl, HK0.out⟩
        · skip
          have r1 : (k == 1) = false := by simp [e1]
          have r3 : (k == 3) = false := by simp [e3]
          have r2 : (k == 2) = false := by simp [e2]
          have r4 : (k == 4) = false := by simp [e4]
          have HN1 := Lib.hid e1; have HN2 := Lib.hid e2; have HN3 := Lib.hid e3; have HN4 := Lib.hid e4
          clear e1 e2 e3 e4
          have HF : Hid (V = false) := Lib.hid (by rw [hw]; rw [if_neg (fun h => by rcases h with h | h; exact HN1.out h; exact HN3.out h), if_neg HN2.out, if_neg HN4.out])
          clear hw
          go_enter Tryz.func67, Tryz.ntmps67
          go_wp2_with fail
          go_ret
          exact ⟨by rw [HF.out]; rfl, HK0.out⟩
end By
end Go.Proofs.YtfobogcccbddbaaGreatDoor
