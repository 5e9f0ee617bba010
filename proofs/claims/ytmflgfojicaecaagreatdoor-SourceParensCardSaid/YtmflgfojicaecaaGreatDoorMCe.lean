/- Check of a source, eleventh part: nesting. Conditions: each argument of a node is the number of an earlier one; there is a node, and at most a million. -/
import Derived.Test.YtmflgfojicaecaaGreatDoorMCd
namespace SrcN
theorem nestF_step {l : List XN} {i : Nat} {n : XN} {ds : List Int} (h : l[i]? = some n) : nestF l (i + 1) ds = nestF l i (setA (dep n (ds[i]?.getD 0)) ds n.args) := by
  show (match l[i]? with | some n => nestF l i (setA (dep n (ds[i]?.getD 0)) ds n.args) | none => nestF l i ds) = _
  rw [h]
end SrcN
namespace Go.Proofs.YtmflgfojicaecaaGreatDoor
namespace By
open Go.RowKit WireN LexN SrcN
set_option linter.unusedVariables false
set_option linter.unusedSimpArgs false

theorem kp_put {w W : World} {g : Nat} (hk : Kp w W) (hg : w.heap.size ≤ g) (i : Nat) (u : Value) : Kp w (W.setCell ⟨g, i, none⟩ u) := Only.kp hk ((Only.refl g W).set i u) hg
set_option maxRecDepth 100000 in
set_option maxHeartbeats 8000000 in
theorem nesting_any {v : Value} {l : List XN} {w : World} (hN : Nds w v l) (hne : l ≠ []) (hargs : ∀ (i : Nat) (n : XN), l[i]? = some n → ∀ a ∈ n.args, 0 ≤ a ∧ a < l.length) :
    Calls Tryz.prog 105 #[v] w fun e w' => e = .returned (.int .i64 (nest l)) ∧ Kp w w' := by
  have HN0 := Lib.hid hN
  obtain ⟨⟨lo, lc, rfl, hll, -⟩, -⟩ := hN
  obtain ⟨n, hn⟩ : ∃ n, n = l.length := ⟨_, rfl⟩
  rw [← hn] at hll hargs HN0 ⊢
  have hnp : 1 ≤ n := by
    rw [hn]
    cases l with
    | nil => exact absurd rfl hne
    | cons a r => simp
  have HLN := Lib.hid hn; have HARGS := Lib.hid hargs
  have HFIN : Hid (∀ ds, nestF l n (nest0 n) = nestF l 0 ds → nest l = mx ds) := Lib.hid (fun ds h => by unfold nest; rw [← hn, h]; rfl)
  obtain ⟨E, hE⟩ : ∃ E, E = nest l := ⟨_, rfl⟩
  rw [← hE] at HFIN ⊢
  obtain ⟨k, hk⟩ : ∃ k, n = k + 1 := ⟨n - 1, by omega⟩
  have hk0 : (n : Int) - 1 = (k : Int) := by omega
  have qm : ∀ W, (Instr.makeSlice 22 (.int .i64 (n : Int)) (.int .i64 (n : Int))).run Tryz.prog W = _ := fun W => make_int hll W
  obtain ⟨g, hg⟩ : ∃ g, g = w.heap.size := ⟨_, rfl⟩
  obtain ⟨cs, hcs⟩ : ∃ cs, cs = (icells (List.replicate n 0)).toArray := ⟨_, rfl⟩
  rw [← hcs] at qm
  obtain ⟨W0, hW0⟩ : ∃ W0, W0 = w.alloc (.cells cs 3) := ⟨_, rfl⟩
  have b0 : IB W0 g (List.replicate n 0) := by rw [hW0, hg, hcs]; exact Blk.new _ _ _
  have HB0 := Lib.hid b0
  have c0 := b0.cell (i := k) (x := 0) (by rw [List.getElem?_replicate, if_pos (by omega)])
  have f0 := Blk.free b0 k
  have HW1 : Hid (IB (w.alloc (.cells (cs.setIfInBounds k (.int .i64 1)) 3)) w.heap.size (nest0 n)) := Lib.hid (by
    have e : cs.setIfInBounds k (.int .i64 1) = (icells (nest0 n)).toArray := by
      have e2 : n - 1 = k := by omega
      rw [hcs, List.setIfInBounds_toArray]
      unfold nest0 icells
      rw [e2, List.map_set]
    rw [e]
    exact Blk.new _ _ _)
  have HG := Lib.hid hg
  have HK1 : Hid (Kp w (w.alloc (.cells (cs.setIfInBounds k (.int .i64 1)) 3))) := Lib.hid (kp_alloc _ _)
  have HW0 := Lib.hid hW0
  rw [hg] at c0 f0
  rw [hW0] at c0 f0
  have HDB0 := Lib.hid (DB.start n)
  have H00 : Hid (Hid (nestF l n (nest0 n) = nestF l n (nest0 n))) := Lib.hid (Lib.hid rfl)
  obtain ⟨N0, hN0⟩ : ∃ N0, N0 = nestF l n (nest0 n) := ⟨_, rfl⟩
  rw [← hN0] at HFIN
  have H0 : Hid (Hid (N0 = nestF l n (nest0 n))) := Lib.hid (Lib.hid hN0)
  have hkn : (k : Int) < (n : Int) := by omega
  have hkz : (0 : Int) ≤ (k : Int) := by omega
  clear hn hargs hne hE hg hW0 b0 hcs hN0 H00 hk
  go_enter Tryz.func105, Tryz.ntmps105
  go_wp2_with fail
  go_loopw [4] (fun iv wy => ∃ (j : Nat) (z : Int) (ds : List Int), j ≤ n ∧ iv = .int .i64 z ∧ z = (j : Int) - 1 ∧ Kp w wy ∧ IB wy w.heap.size ds ∧ DB n ((n : Int) - j + 1) ds ∧ Hid (N0 = nestF l j ds)) (fun iv _ => (intOf iv + 1).toNat)
  case atStart => exact ⟨n, _, nest0 n, Nat.le_refl _, rfl, by omega, HK1.out, HW1.out, HDB0.out.mono (by omega), H0.out⟩
  case round =>
    obtain ⟨j, z, ds, hj, rfl, hzj, hkp, hib, hdb, HEQ⟩ := hrel
    have HKP := Lib.hid hkp; have HIB := Lib.hid hib; have HDB := Lib.hid hdb
    clear hkp hib hdb c0 f0 qm
    rename World => wy
    by_cases hj0 : 1 ≤ j
    · obtain ⟨m, rfl⟩ : ∃ m, j = m + 1 := ⟨j - 1, by omega⟩
      obtain rfl : z = (m : Int) := by omega
      clear hzj
      obtain ⟨x, hx⟩ : ∃ x, l[m]? = some x := ⟨_, List.getElem?_eq_getElem (by have := HLN.out; omega)⟩
      have hz0 : (0 : Int) ≤ (m : Int) := by omega
      have hmn : (m : Int) < (n : Int) := by omega
      obtain ⟨d, hd⟩ : ∃ d, ds[m]? = some d := ⟨_, List.getElem?_eq_getElem (by have := HDB.out.len; omega)⟩
      have hdb := HDB.out.bnd d (List.mem_of_getElem? hd)
      have e0 := HIB.out.cell hd
      have HARG := Lib.hid (HARGS.out m x hx)
      obtain ⟨⟨lo', lc', e1, -, hcell⟩, -⟩ := HN0.out
      simp only [Value.slice.injEq] at e1
      obtain ⟨rfl, -, rfl⟩ := e1
      rcases hcell with h0 | ⟨g2, o, rfl, hcell⟩
      · rw [h0] at hx; cases hx
      obtain ⟨aa, ac, k0, -, -, -, k4, hIs⟩ := hcell m x hx
      have HNX : Hid (nestF l (m + 1) ds = nestF l m (setA (dep x d) ds x.args)) := Lib.hid (by rw [nestF_step hx, hd]; rfl)
      obtain ⟨al, hal⟩ : ∃ al, al = x.args.length := ⟨_, rfl⟩
      have hal1 : al ≤ 1000000 := by rw [hal]; exact hIs.few
      rw [← hal] at k4 hIs
      have k4 := cell_kept k4 HKP.out
      have k0 := cell_kept k0 HKP.out
      have HIS := Lib.hid hIs
      have HAL := Lib.hid hal
      obtain ⟨D, hD⟩ : ∃ D, D = dep x d := ⟨_, rfl⟩
      rw [← hD] at HNX
      obtain ⟨xk, hxk⟩ : ∃ y, y = x.k := ⟨_, rfl⟩
      rw [← hxk] at k0
      have hDv : D = if xk = 4 then d else d + 1 := by rw [hD, hxk]; rfl
      have HA0 : Hid (Hid (setA D ds (x.args.drop 0) = setA D ds x.args)) := Lib.hid (Lib.hid rfl)
      have HDB1 : Hid (DB n ((n : Int) - m + 1) ds) := Lib.hid (HDB.out.mono (by omega))
      clear hx hcell hIs hal hD hxk hd
      by_cases hk4 : xk = 4
      · subst hk4
        obtain rfl : D = d := by simpa using hDv
        clear hDv
        have HD0 : Hid (0 ≤ D ∧ D ≤ (n : Int) - m + 1) := Lib.hid (by omega)
        clear hdb
        go_wp2_with fail
        go_loopw [41] (fun tv wz => ∃ (t : Nat) (dz : List Int), t ≤ al ∧ tv = .int .i64 t ∧ Kp w wz ∧ IB wz w.heap.size dz ∧ DB n ((n : Int) - m + 1) dz ∧ Hid (setA D dz (x.args.drop t) = setA D ds x.args)) (fun tv _ => al - (intOf tv).toNat)
        case atStart => exact ⟨0, ds, Nat.zero_le _, rfl, HKP.out, HIB.out, HDB1.out, HA0.out⟩
        case round =>
          obtain ⟨t, dz, ht, rfl, hkp2, hib2, hdb2, HE2⟩ := hrel
          have HKP2 := Lib.hid hkp2; have HIB2 := Lib.hid hib2; have HDB2 := Lib.hid hdb2
          clear hkp2 hib2 hdb2 e0 k0 k4
          rename World => wz
          by_cases htl : t < al
          · obtain ⟨a, ha⟩ : ∃ a, x.args[t]? = some a := ⟨_, List.getElem?_eq_getElem (by have := HAL.out; omega)⟩
            have harg := HARG.out a (List.mem_of_getElem? ha)
            obtain ⟨p, rfl⟩ : ∃ p : Nat, a = (p : Int) := ⟨a.toNat, by omega⟩
            obtain ⟨ga, oa, rfl, hca⟩ := HIS.out.cell (j := t) (by have := HAL.out; omega)
            have ka := cell_kept (hca t _ ha) HKP2.out
            obtain ⟨y, hy⟩ : ∃ y, dz[p]? = some y := ⟨_, List.getElem?_eq_getElem (by have := HDB2.out.len; omega)⟩
            have kb := HIB2.out.cell hy
            have fb := Blk.free HIB2.out p
            have hp0 : (0 : Int) ≤ (p : Int) := harg.1
            have hpn : (p : Int) < (n : Int) := harg.2
            have HNEW : Hid (Hid (setA D (dz.set p D) (x.args.drop (t + 1)) = setA D ds x.args)) := Lib.hid (Lib.hid (by
              rw [← HE2.out, setA_step ha, Int.toNat_natCast]))
            have HIB3 : Hid (IB (wz.setCell ⟨w.heap.size, p, none⟩ (.int .i64 D)) w.heap.size (dz.set p D)) := Lib.hid (HIB2.out.set p _)
            have HKP3 : Hid (Kp w (wz.setCell ⟨w.heap.size, p, none⟩ (.int .i64 D))) := Lib.hid (kp_put HKP2.out (Nat.le_refl _) _ _)
            have HDB3 : Hid (DB n ((n : Int) - m + 1) (dz.set p D)) := Lib.hid (HDB2.out.set p HD0.out.1 HD0.out.2)
            clear hca ha hy harg
            go_wp2_with fail
            go_roundw
            case rel => exact ⟨t + 1, _, by omega, vint (by omega), HKP3.out, HIB3.out, HDB3.out, HNEW.out⟩
            case measure => simp [intOf]; omega
          · have HEQ2 : Hid (Hid (N0 = nestF l m dz)) := Lib.hid (Lib.hid (by
              rw [HEQ.out, HNX.out, ← HE2.out, List.drop_eq_nil_of_le (by have := HAL.out; omega)]; rfl))
            go_wp2_with fail
            go_roundw
            case rel => exact ⟨m, _, dz, by omega, rfl, by omega, HKP2.out, HIB2.out, HDB2.out, HEQ2.out⟩
            case measure => simp [intOf]
      · obtain rfl : D = d + 1 := by rw [hDv, if_neg hk4]
        have hwr : IntKind.i64.wrap (d + 1) = d + 1 := by rw [IntKind.wrap_i64]; omega
        have hkb : (xk == 4) = false := beq_eq_false_iff_ne.2 hk4
        have hkc : (xk != 4) = true := by rw [bne, hkb]; rfl
        clear hDv
        have HD0 : Hid (0 ≤ d + 1 ∧ d + 1 ≤ (n : Int) - m + 1) := Lib.hid (by omega)
        clear hdb
        go_wp2_with fail
        go_loopw [41] (fun tv wz => ∃ (t : Nat) (dz : List Int), t ≤ al ∧ tv = .int .i64 t ∧ Kp w wz ∧ IB wz w.heap.size dz ∧ DB n ((n : Int) - m + 1) dz ∧ Hid (setA (d + 1) dz (x.args.drop t) = setA (d + 1) ds x.args)) (fun tv _ => al - (intOf tv).toNat)
        case atStart => exact ⟨0, ds, Nat.zero_le _, rfl, HKP.out, HIB.out, HDB1.out, HA0.out⟩
        case round =>
          obtain ⟨t, dz, ht, rfl, hkp2, hib2, hdb2, HE2⟩ := hrel
          have HKP2 := Lib.hid hkp2; have HIB2 := Lib.hid hib2; have HDB2 := Lib.hid hdb2
          clear hkp2 hib2 hdb2 e0 k0 k4
          rename World => wz
          by_cases htl : t < al
          · obtain ⟨a, ha⟩ : ∃ a, x.args[t]? = some a := ⟨_, List.getElem?_eq_getElem (by have := HAL.out; omega)⟩
            have harg := HARG.out a (List.mem_of_getElem? ha)
            obtain ⟨p, rfl⟩ : ∃ p : Nat, a = (p : Int) := ⟨a.toNat, by omega⟩
            obtain ⟨ga, oa, rfl, hca⟩ := HIS.out.cell (j := t) (by have := HAL.out; omega)
            have ka := cell_kept (hca t _ ha) HKP2.out
            obtain ⟨y, hy⟩ : ∃ y, dz[p]? = some y := ⟨_, List.getElem?_eq_getElem (by have := HDB2.out.len; omega)⟩
            have kb := HIB2.out.cell hy
            have fb := Blk.free HIB2.out p
            have hp0 : (0 : Int) ≤ (p : Int) := harg.1
            have hpn : (p : Int) < (n : Int) := harg.2
            have HNEW : Hid (Hid (setA (d + 1) (dz.set p (d + 1)) (x.args.drop (t + 1)) = setA (d + 1) ds x.args)) := Lib.hid (Lib.hid (by
              rw [← HE2.out, setA_step ha, Int.toNat_natCast]))
            have HIB3 : Hid (IB (wz.setCell ⟨w.heap.size, p, none⟩ (.int .i64 (d + 1))) w.heap.size (dz.set p (d + 1))) := Lib.hid (HIB2.out.set p _)
            have HKP3 : Hid (Kp w (wz.setCell ⟨w.heap.size, p, none⟩ (.int .i64 (d + 1)))) := Lib.hid (kp_put HKP2.out (Nat.le_refl _) _ _)
            have HDB3 : Hid (DB n ((n : Int) - m + 1) (dz.set p (d + 1))) := Lib.hid (HDB2.out.set p HD0.out.1 HD0.out.2)
            clear hca ha hy harg
            go_wp2_with fail
            go_roundw
            case rel => exact ⟨t + 1, _, by omega, vint (by omega), HKP3.out, HIB3.out, HDB3.out, HNEW.out⟩
            case measure => simp [intOf]; omega
          · have HEQ2 : Hid (Hid (N0 = nestF l m dz)) := Lib.hid (Lib.hid (by
              rw [HEQ.out, HNX.out, ← HE2.out, List.drop_eq_nil_of_le (by have := HAL.out; omega)]; rfl))
            go_wp2_with fail
            go_roundw
            case rel => exact ⟨m, _, dz, by omega, rfl, by omega, HKP2.out, HIB2.out, HDB2.out, HEQ2.out⟩
            case measure => simp [intOf]
    · obtain rfl : j = 0 := by omega
      have hzn : z < 0 := by omega
      clear hzj
      have HE : Hid (E = mx ds) := Lib.hid (HFIN.out ds HEQ.out)
      have hdl := HDB.out.len
      have HIS := HIB.out.is (by omega)
      rw [hdl] at HIS
      have C := Lib.hid (Max_any HIS (by intro e; rw [e] at hdl; simp at hdl; omega))
      clear HIS hdl
      go_wp2_with fail
      refine C.out.mono ?_
      rintro e W2 ⟨rfl, hk2⟩
      have HK2 := Lib.hid (Kp.trans HKP.out hk2)
      clear hk2
      go_wp2_with fail
      go_ret
      exact ⟨by rw [HE.out]; simp, HK2.out⟩
end By
end Go.Proofs.YtmflgfojicaecaaGreatDoor

/- Check of a source, twelfth part: in a body that is in the right order each argument is the number of an earlier node. No condition. -/
namespace SrcN
theorem bodyF_args {ps : Int} : ∀ (r : List XN) (i : Nat) (fr out : List Int), bodyF ps i r fr = some out → (∀ a ∈ fr, 0 ≤ a ∧ a < (i : Int)) → ∀ (j : Nat) (n : XN), r[j]? = some n → ∀ a ∈ n.args, 0 ≤ a ∧ a < ((i + j : Nat) : Int)
  | [], i, fr, out, h, hf, j, n, hj, a, ha => by simp at hj
  | x :: r, i, fr, out, h, hf, j, n, hj, a, ha => by
    unfold bodyF at h
    by_cases hc : (nodeB x ps && decide (x.args.length ≤ fr.length) && (fr.drop (fr.length - x.args.length) == x.args)) = true
    · rw [if_pos hc] at h
      have hd : fr.drop (fr.length - x.args.length) = x.args := by
        rw [Bool.and_eq_true] at hc
        exact beq_iff_eq.1 hc.2
      cases j with
      | zero =>
        simp only [List.getElem?_cons_zero, Option.some.injEq] at hj
        subst hj
        rw [← hd] at ha
        have := hf a (List.mem_of_mem_drop ha)
        omega
      | succ j =>
        rw [List.getElem?_cons_succ] at hj
        have hf2 : ∀ b ∈ fr.take (fr.length - x.args.length) ++ [(i : Int)], 0 ≤ b ∧ b < ((i + 1 : Nat) : Int) := by
          intro b hb
          rw [List.mem_append, List.mem_singleton] at hb
          rcases hb with hb | hb
          · have := hf b (List.mem_of_mem_take hb)
            omega
          · omega
        have := bodyF_args r (i + 1) _ out h hf2 j n hj a ha
        omega
    · rw [if_neg hc] at h
      cases h
theorem bodyB_args {l : List XN} {ps : Int} (h : bodyB l ps = true) : l ≠ [] ∧ ∀ (i : Nat) (n : XN), l[i]? = some n → ∀ a ∈ n.args, 0 ≤ a ∧ a < (l.length : Int) := by
  unfold bodyB at h
  constructor
  · intro e
    subst e
    simp [bodyF] at h
  · intro i n hi a ha
    cases hb : bodyF ps 0 l [] with
    | none => rw [hb] at h; simp at h
    | some out =>
      have h1 := bodyF_args l 0 [] out hb (by simp) i n hi a ha
      have h2 : i < l.length := by
        rcases Nat.lt_or_ge i l.length with h3 | h3
        · exact h3
        · rw [List.getElem?_eq_none h3] at hi; cases hi
      omega
end SrcN

/- Check of a source, thirteenth part: whether a declaration keeps the limits. Conditions: each argument of a node is the number of an earlier one; there is a node. -/
namespace SrcN
def smallB (d : XD) : Bool := decide (d.ps.length ≤ 8) && (decide (d.bd.length ≤ 256) && decide (nest d.bd ≤ 32))
end SrcN
namespace Go.Proofs.YtmflgfojicaecaaGreatDoor
namespace By
open Go.RowKit WireN LexN SrcN
set_option linter.unusedVariables false
set_option linter.unusedSimpArgs false

set_option maxRecDepth 100000 in
set_option maxHeartbeats 4000000 in
theorem isSmallDecl_any {d : XD} {pa ba : Option Addr} {pc bc : Nat} {w : World} (hpl : d.ps.length ≤ 1000000) (hB : Nds w (.slice ba d.bd.length bc) d.bd) (hok : d.bd ≠ [] ∧ ∀ (i : Nat) (n : XN), d.bd[i]? = some n → ∀ a ∈ n.args, 0 ≤ a ∧ a < (d.bd.length : Int)) :
    Calls Tryz.prog 61 #[.agg #[.int .i64 d.k, .string (st d.nm), .slice pa d.ps.length pc, .slice ba d.bd.length bc]] w fun e w' => e = .returned (.bool (smallB d)) ∧ Kp w w' := by
  have hbl : d.bd.length ≤ 1000000 := by
    obtain ⟨⟨_, _, h1, h2, -⟩, -⟩ := hB
    exact h2
  obtain ⟨W0, hW0⟩ : ∃ W0, W0 = w.alloc (Obj.cells #[.int .i64 d.k, .string (st d.nm), .slice pa d.ps.length pc, .slice ba d.bd.length bc] 38) := ⟨_, rfl⟩
  have k0 : Kp w W0 := by rw [hW0]; exact kp_alloc w _
  have bb : Blk W0 w.heap.size 38 #[.int .i64 d.k, .string (st d.nm), .slice pa d.ps.length pc, .slice ba d.bd.length bc] := by rw [hW0]; exact Blk.new _ _ _
  have C := Lib.hid (nesting_any (hB.kp k0) hok.1 hok.2)
  obtain ⟨q, hq⟩ : ∃ q, q = nest d.bd := ⟨_, rfl⟩
  obtain ⟨kk, hkk⟩ : ∃ x, x = d.k := ⟨_, rfl⟩
  obtain ⟨S, hS⟩ : ∃ x, x = st d.nm := ⟨_, rfl⟩
  obtain ⟨pl, hpl1⟩ : ∃ x, x = d.ps.length := ⟨_, rfl⟩
  obtain ⟨bl, hbl1⟩ : ∃ x, x = d.bd.length := ⟨_, rfl⟩
  have HD : Hid (smallB d = (decide (pl ≤ 8) && (decide (bl ≤ 256) && decide (q ≤ 32)))) := Lib.hid (by rw [hq, hpl1, hbl1]; rfl)
  rw [← hq, ← hbl1] at C
  rw [← hpl1] at hpl
  rw [← hbl1] at hbl
  rw [← hkk, ← hS, ← hpl1, ← hbl1] at hW0 bb ⊢
  have c2 := bb.cell 2 rfl; have c3 := bb.cell 3 rfl
  obtain ⟨E, hE⟩ : ∃ E, E = smallB d := ⟨_, rfl⟩
  rw [← hE] at HD ⊢
  have K0 := Lib.hid k0; have HW0 := Lib.hid hW0
  rw [hW0] at c2 c3
  clear hq hkk hS hpl1 hbl1 hE hW0 k0 bb hB hok
  by_cases h1 : pl ≤ 8
  · have i1 : (pl : Int) ≤ 8 := by omega
    have HD1 : Hid (decide (pl ≤ 8) = true) := Lib.hid (decide_eq_true h1)
    by_cases h2 : bl ≤ 256
    · have i2 : (bl : Int) ≤ 256 := by omega
      have HD2 : Hid (decide (bl ≤ 256) = true) := Lib.hid (decide_eq_true h2)
      clear h1 h2
      go_enter Tryz.func61, Tryz.ntmps61
      go_wp2_with fail
      rw [← HW0.out]
      refine C.out.mono ?_
      rintro e W1 ⟨rfl, hk1⟩
      have HK1 := Lib.hid (Kp.trans K0.out hk1)
      clear hk1 c2 c3
      go_wp2_with fail
      go_ret
      exact ⟨by rw [HD.out, HD1.out, HD2.out]; simp, HK1.out⟩
    · have i2 : decide ((bl : Int) ≤ 256) = false := decide_eq_false (by omega)
      have HD2 : Hid (decide (bl ≤ 256) = false) := Lib.hid (decide_eq_false h2)
      clear h1 h2
      go_enter Tryz.func61, Tryz.ntmps61
      go_wp2_with fail
      go_ret
      rw [← HW0.out]
      exact ⟨by rw [HD.out, HD1.out, HD2.out]; simp, K0.out⟩
  · have i1 : decide ((pl : Int) ≤ 8) = false := decide_eq_false (by omega)
    have HD1 : Hid (decide (pl ≤ 8) = false) := Lib.hid (decide_eq_false h1)
    clear h1
    go_enter Tryz.func61, Tryz.ntmps61
    go_wp2_with fail
    go_ret
    rw [← HW0.out]
    exact ⟨by rw [HD.out, HD1.out]; simp, K0.out⟩
end By
end Go.Proofs.YtmflgfojicaecaaGreatDoor

/- Check of a source, fourteenth part: isSmall. Condition: the source passes isSource; the package variables that the code reads lie in memory. -/
namespace SrcN
def smlB (f : XS) : Bool := decide (f.im.length ≤ 8) && (decide (f.dc.length ≤ 64) && f.dc.all smallB)
theorem declB_body {d : XD} (h : declB d = true) : ∃ ps, bodyB d.bd ps = true := by
  unfold declB at h
  split at h
  · simp only [Bool.and_eq_true] at h; exact ⟨_, h.2.2⟩
  · split at h
    · simp only [Bool.and_eq_true] at h; exact ⟨_, h.2.2⟩
    · split at h
      · simp only [Bool.and_eq_true] at h; exact ⟨_, h.2.2⟩
      · cases h
end SrcN
namespace Go.Proofs.YtmflgfojicaecaaGreatDoor
namespace By
open Go.RowKit WireN LexN SrcN
set_option linter.unusedVariables false
set_option linter.unusedSimpArgs false

theorem fitsSmall : FitsD 61 smallB (fun d => declB d = true) := ⟨Tryz.call61, fun hd hG hl hlen hP hB => by
  obtain ⟨ps, hb⟩ := declB_body hd
  obtain ⟨⟨_, _, -, h2, -⟩, -⟩ := hP
  exact isSmallDecl_any h2 hB (bodyB_args hb)⟩
set_option maxRecDepth 100000 in
set_option maxHeartbeats 4000000 in
theorem isSmall_any {f : XS} {iv dv : Value} {w : World} (hG : Glob w) (hS : SrcV w iv dv f) (hok : srcB f = true) :
    Calls Tryz.prog 28 #[.agg #[.string (st f.pk), iv, dv]] w fun e w' => e = .returned (.bool (smlB f)) ∧ Kp w w' := by
  have HS := Lib.hid hS
  have hds : ∀ d ∈ f.dc, declB d = true := by
    unfold srcB at hok
    simp only [Bool.and_eq_true] at hok
    exact List.all_eq_true.1 hok.2.2
  obtain ⟨⟨ia, ic, rfl, -, -⟩, -⟩ := hS.im
  obtain ⟨⟨da, dcp, rfl, -, -⟩, -⟩ := hS.dc
  obtain ⟨W0, hW0⟩ : ∃ W0, W0 = w.alloc (Obj.cells #[.string (st f.pk), .slice ia f.im.length ic, .slice da f.dc.length dcp] 29) := ⟨_, rfl⟩
  have k0 : Kp w W0 := by rw [hW0]; exact kp_alloc w _
  have bb : Blk W0 w.heap.size 29 #[.string (st f.pk), .slice ia f.im.length ic, .slice da f.dc.length dcp] := by rw [hW0]; exact Blk.new _ _ _
  have C := Lib.hid (allDcl_any fitsSmall hds (hG.kp' k0) (HS.out.dc.kp k0))
  obtain ⟨q, hq⟩ : ∃ q, q = f.dc.all smallB := ⟨_, rfl⟩
  obtain ⟨S, hSS⟩ : ∃ x, x = st f.pk := ⟨_, rfl⟩
  obtain ⟨il, hil⟩ : ∃ x, x = f.im.length := ⟨_, rfl⟩
  obtain ⟨dl, hdl⟩ : ∃ x, x = f.dc.length := ⟨_, rfl⟩
  have HD : Hid (smlB f = (decide (il ≤ 8) && (decide (dl ≤ 64) && q))) := Lib.hid (by rw [hq, hil, hdl]; rfl)
  have hil6 : il ≤ 1000000 := by
    obtain ⟨⟨_, _, -, h2, -⟩, -⟩ := HS.out.im
    omega
  have hdl6 : dl ≤ 1000000 := by
    obtain ⟨⟨_, _, -, h2, -⟩, -⟩ := HS.out.dc
    omega
  rw [← hq, ← hdl] at C
  rw [← hSS, ← hil, ← hdl] at hW0 bb ⊢
  have c1 := bb.cell 1 rfl; have c2 := bb.cell 2 rfl
  obtain ⟨E, hE⟩ : ∃ E, E = smlB f := ⟨_, rfl⟩
  rw [← hE] at HD ⊢
  have K0 := Lib.hid k0; have HW0 := Lib.hid hW0
  rw [hW0] at c1 c2
  clear hq hSS hil hdl hE hW0 k0 bb hS hok hds hG
  by_cases h1 : il ≤ 8
  · have i1 : (il : Int) ≤ 8 := by omega
    have HD1 : Hid (decide (il ≤ 8) = true) := Lib.hid (decide_eq_true h1)
    by_cases h2 : dl ≤ 64
    · have i2 : (dl : Int) ≤ 64 := by omega
      have HD2 : Hid (decide (dl ≤ 64) = true) := Lib.hid (decide_eq_true h2)
      clear h1 h2
      go_enter Tryz.func28, Tryz.ntmps28
      go_wp2_with fail
      rw [← HW0.out]
      refine C.out.mono ?_
      rintro e W1 ⟨rfl, hk1⟩
      have HK1 := Lib.hid (Kp.trans K0.out hk1)
      clear hk1 c1 c2
      go_wp2_with fail
      go_ret
      exact ⟨by rw [HD.out, HD1.out, HD2.out]; simp, HK1.out⟩
    · have i2 : decide ((dl : Int) ≤ 64) = false := decide_eq_false (by omega)
      have HD2 : Hid (decide (dl ≤ 64) = false) := Lib.hid (decide_eq_false h2)
      clear h1 h2
      go_enter Tryz.func28, Tryz.ntmps28
      go_wp2_with fail
      go_ret
      rw [← HW0.out]
      exact ⟨by rw [HD.out, HD1.out, HD2.out]; simp, K0.out⟩
  · have i1 : decide ((il : Int) ≤ 8) = false := decide_eq_false (by omega)
    have HD1 : Hid (decide (il ≤ 8) = false) := Lib.hid (decide_eq_false h1)
    clear h1
    go_enter Tryz.func28, Tryz.ntmps28
    go_wp2_with fail
    go_ret
    rw [← HW0.out]
    exact ⟨by rw [HD.out, HD1.out]; simp, K0.out⟩
end By
end Go.Proofs.YtmflgfojicaecaaGreatDoor
