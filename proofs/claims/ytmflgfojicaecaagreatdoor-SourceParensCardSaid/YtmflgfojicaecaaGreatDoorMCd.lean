/- Check of a source, eighth part: no string of a row occurs twice. Conditions: strings have at most a million bytes, the row at most a million items. -/
import Derived.Test.YtmflgfojicaecaaGreatDoorMCc
namespace SrcN
/-- Whether no item occurs twice, nor among those seen before. -/
def dis (seen : List (List Nat)) : List (List Nat) → Bool
  | [] => true
  | x :: r => if seen.contains x then false else dis (seen ++ [x]) r
end SrcN
namespace Go.Proofs.YtmflgfojicaecaaGreatDoor
namespace By
open Go.RowKit WireN LexN SrcN
set_option linter.unusedVariables false
set_option linter.unusedSimpArgs false

/-- Block b is a map of at most n entries that tells which strings were seen. -/
structure SM (w : World) (b n : Nat) (seen : List (List Nat)) : Prop where
  ex : ∃ D : DataW Unit, w.ownsMap Tryz.prog 9 (plainElem Tryz.prog 4) b n D ∧ Go.Maps.IsMap D ∧ ∀ c : List Nat, Lt c → D.atKey (.string (st c).data.toList) (.lit (.bool false)) = .lit (.bool (seen.contains c))
theorem SM.made (w : World) : SM (w.alloc (.map #[] 0)) w.heap.size 0 [] :=
  ⟨.map [], World.ownsMap_made w _ _ _, ⟨[], rfl⟩, fun c _ => rfl⟩
theorem SM.lt {w : World} {b n : Nat} {seen : List (List Nat)} (h : SM w b n seen) : b < w.heap.size := by
  obtain ⟨D, h1, -, -⟩ := h; exact h1.lt
theorem lawS : Go.Maps.Keyed Tryz.prog 9 := Go.Maps.string_keyed Tryz.underlying9
theorem zeroB (w : World) : (zeroValue 4).run Tryz.prog w = .ok (.bool false) w := Tryz.zeroValue4 w
set_option maxRecDepth 100000 in
theorem plainB_inv {v : Value} {z : DataW Unit × List MemPlace} (h : plainElem Tryz.prog 4 v = some z) : ∃ x, v = .bool x ∧ z = (.lit (.bool x), []) := by
  unfold plainElem at h
  rw [Tryz.underlying4] at h
  cases v <;> simp at h
  exact ⟨_, rfl, h.symm⟩
theorem keyS {c : List Nat} (hl : c.length ≤ 1000000) : keyOf Tryz.prog 9 (.string (st c)) = some (.string (st c).data.toList) :=
  WideMaps.keyOf_string_mk Tryz.underlying9 (by rw [st_size]; unfold maxLen; omega)
theorem st_dne {c k : List Nat} (hc : Lt c) (hk : Lt k) (h : c ≠ k) : (Lit.string (st c).data.toList) ≠ Lit.string (st k).data.toList := by
  intro e
  injection e with e
  have h1 : (st c).toList = (st k).toList := by
    have : (st c) = (st k) := by
      have h2 : (st c).data = (st k).data := Array.toList_inj.1 e
      cases hx : st c; cases hy : st k
      rw [hx, hy] at h2
      simp at h2
      rw [h2]
    rw [this]
  have h3 := st_eqb hc hk
  rw [h1] at h3
  simp at h3
  exact h h3
set_option maxRecDepth 100000 in
theorem SM.get {w : World} {b n : Nat} {seen : List (List Nat)} (h : SM w b n seen) {c : List Nat} (hc : Lt c) (hl : c.length ≤ 1000000) : (Instr.lookup 126 (.map (some b)) (.string (st c)) false).run Tryz.prog w = .ok (.bool (seen.contains c)) w := by
  obtain ⟨D, h1, h2, h3⟩ := h
  obtain ⟨v, ps, hr, hv⟩ := h1.lookup lawS Tryz.underlying126 (zeroB w) (plainElem_bool Tryz.underlying4 false) (keyS hl)
  obtain ⟨x, rfl, hx⟩ := plainB_inv hv
  rw [h3 c hc] at hx
  simp only [Prod.mk.injEq] at hx
  have h5 := hx.1
  injection h5 with h5
  injection h5 with h5
  rw [hr, h5]
set_option maxRecDepth 100000 in
theorem SM.put {w : World} {b n : Nat} {seen : List (List Nat)} (h : SM w b n seen) (hn : n < 10000000) {k : List Nat} (hk : Lt k) (hl : k.length ≤ 1000000) :
    ∃ w', (Instr.mapUpdate 126 (.map (some b)) (.string (st k)) (.bool true)).run Tryz.prog w = .ok () w' ∧ SM w' b (n + 1) (seen ++ [k]) ∧ w.grownBy w' (some b) := by
  obtain ⟨D, h1, h2, h3⟩ := h
  obtain ⟨w', hr, ho, hg⟩ := h1.update lawS Tryz.underlying126 (by unfold maxLen; omega) (keyS hl) (plainElem_bool (H := Unit) Tryz.underlying4 true)
  refine ⟨w', hr, ⟨_, ho, ?_, fun c hc => ?_⟩, hg⟩
  · obtain ⟨es, rfl⟩ := h2
    exact ⟨_, rfl⟩
  · by_cases hck : c = k
    · subst hck
      rw [Go.Maps.atKey_put_same h2 (by trivial)]
      simp
    · rw [Go.Maps.atKey_put_other (st_dne hc hk hck), h3 c hc]
      simp [hck]
theorem wpList_updS {w : World} {ops : Array Oper} {rest : List Oper} {o : Oper} {a : Act} {Q : Exit → Act → World → Prop} (hg : o.guard = none) (m x v : Operand) (hop : o.op = Op.mapUpdate 126 m x v)
    {b n : Nat} {seen : List (List Nat)} (hm : a.eval m = .map (some b)) (h : SM w b n seen) (hn : n < 10000000) (k : List Nat) (hk : Lt k) (hl : k.length ≤ 1000000) (hx : a.eval x = .string (st k)) (hv : a.eval v = .bool true)
    (hK : ∀ w', SM w' b (n + 1) (seen ++ [k]) → w.grownBy w' (some b) → wpList Tryz.prog ops Q rest (a.put o.dst undef) w') : wpList Tryz.prog ops Q (o :: rest) a w := by
  refine wpList_plain hg fun K' hK' => ?_
  obtain ⟨w', hrun, r1, r2⟩ := h.put hn hk hl
  unfold Oper.wp
  simp [execOp, hop, hm, hx, hv, hrun, Result.andThen]
  exact hK' _ _ (hK w' r1 r2)
theorem dis_step {seen l : List (List Nat)} {i : Nat} {x : List Nat} (h : l[i]? = some x) : dis seen (l.drop i) = if seen.contains x then false else dis (seen ++ [x]) (l.drop (i + 1)) := by
  obtain ⟨hi, rfl⟩ := List.getElem?_eq_some_iff.1 h
  rw [List.drop_eq_getElem_cons hi]
  rfl
set_option maxRecDepth 100000 in
set_option maxHeartbeats 4000000 in
theorem distinctS_any {v : Value} {l : List (List Nat)} {w : World} (hD : Sts w v l) :
    Calls Tryz.prog 59 #[v] w fun e w' => e = .returned (.bool (dis [] l)) ∧ Kp w w' := by
  obtain ⟨⟨ao, cap, rfl, hl64, hcell⟩, hok⟩ := hD
  obtain ⟨len, hlen⟩ : ∃ len, len = l.length := ⟨_, rfl⟩
  rw [← hlen] at hl64 ⊢
  have HC := Lib.hid hcell; have HO := Lib.hid hok; have HL := Lib.hid hlen
  clear hcell hok hlen
  have HEND : Hid (∀ (i : Nat) (seen : List (List Nat)), dis [] l = dis seen (l.drop i) → len ≤ i → dis [] l = true) := Lib.hid (fun i seen h hi => by
    rw [h, List.drop_eq_nil_of_le (by have := HL.out; omega)]; rfl)
  have HST : Hid (∀ (i : Nat) (seen : List (List Nat)) (x : List Nat), dis [] l = dis seen (l.drop i) → l[i]? = some x → dis [] l = if seen.contains x then false else dis (seen ++ [x]) (l.drop (i + 1))) := Lib.hid (fun i seen x h hx => by rw [h]; exact dis_step hx)
  obtain ⟨E, hE⟩ : ∃ E, E = dis [] l := ⟨_, rfl⟩
  have H0 : Hid (Hid (E = dis [] (l.drop 0))) := Lib.hid (Lib.hid hE)
  rw [← hE] at HEND HST ⊢
  clear hE
  have HM0 := Lib.hid (SM.made w)
  have HK0 := Lib.hid (kp_alloc w (.map #[] 0))
  obtain ⟨b, hb⟩ : ∃ b, b = w.heap.size := ⟨_, rfl⟩
  have HB := Lib.hid hb
  clear hb
  have hmm := @run_makeMap Tryz.prog
  go_enter Tryz.func59, Tryz.ntmps59
  go_wp2_with fail
  clear hmm
  go_loopw [9] (fun iv wy => ∃ (i : Nat) (seen : List (List Nat)), i ≤ len ∧ iv = .int .i64 i ∧ Kp w wy ∧ Hid (SM wy w.heap.size i seen) ∧ Hid (E = dis seen (l.drop i))) (fun iv _ => len - (intOf iv).toNat)
  case atStart => exact ⟨0, [], Nat.zero_le _, rfl, HK0.out, HM0, H0.out⟩
  case round =>
    obtain ⟨i, seen, hi, rfl, hkp, HSM, HEQ⟩ := hrel
    have HKP := Lib.hid hkp
    clear hkp
    rename World => wy
    by_cases hil : i < len
    · obtain ⟨x, hx⟩ : ∃ x, l[i]? = some x := ⟨_, List.getElem?_eq_getElem (by have := HL.out; omega)⟩
      have hxo := HO.out x (List.mem_of_getElem? hx)
      rcases HC.out with h0 | ⟨g, o, rfl, -, hc⟩
      · rw [h0] at hx; cases hx
      have k0 := cell_kept (hc i x hx) HKP.out
      have q0 := HSM.out.get hxo.1 hxo.2
      have HS1 := Lib.hid (HST.out i seen x HEQ.out hx)
      have HXO := Lib.hid hxo
      clear hc hx hxo
      obtain ⟨S, hS⟩ : ∃ S, S = st x := ⟨_, rfl⟩
      obtain ⟨c, hc⟩ : ∃ c, c = seen.contains x := ⟨_, rfl⟩
      rw [← hS, ← hc] at q0
      rw [← hS] at k0
      rw [← hc] at HS1
      have HSS := Lib.hid hS
      clear hS hc
      cases c with
      | true =>
        have FIN : Hid (E = false) := Lib.hid (by rw [HS1.out]; rfl)
        go_wp2_with fail
        go_ret
        exact ⟨by rw [FIN.out]; simp, HKP.out⟩
      | false =>
        have HNEW : Hid (Hid (E = dis (seen ++ [x]) (l.drop (i + 1)))) := Lib.hid (Lib.hid (by rw [HS1.out]; rfl))
        go_wp2_with (at_mapUpdate; refine wpList_updS rfl (.tmp 16) (.tmp 17) (.const (.bool true)) rfl rfl HSM.out (by omega) x HXO.out.1 HXO.out.2 (by rw [← HSS.out]; rfl) rfl ?_)
        intro w7 km7 g7
        have H7 := Lib.hid km7
        have K7 : Hid (Kp w w7) := Lib.hid (grown_kp HKP.out g7 (Nat.le_refl _))
        clear km7 g7
        go_wp2_with fail
        go_roundw
        case rel => exact ⟨i + 1, _, by omega, vint (by omega), K7.out, H7, HNEW.out⟩
        case measure => simp [intOf]; omega
    · have FIN : Hid (E = true) := Lib.hid (HEND.out i seen HEQ.out (by omega))
      go_wp2_with fail
      go_ret
      exact ⟨by rw [FIN.out]; simp, HKP.out⟩
end By
end Go.Proofs.YtmflgfojicaecaaGreatDoor

/- Check of a source, ninth part: the greatest of a row of integers. Condition: the row has an item, and at most a million. -/
namespace SrcN
/-- The greatest item. -/
def mx : List Int → Int
  | [] => 0
  | x :: r => r.foldl max x
theorem mx_snoc {l : List Int} (h : l ≠ []) (x : Int) : mx (l ++ [x]) = max (mx l) x := by
  cases l with
  | nil => exact absurd rfl h
  | cons a r => simp [mx, List.foldl_append]
end SrcN
namespace Go.Proofs.YtmflgfojicaecaaGreatDoor
namespace By
open Go.RowKit WireN LexN SrcN
set_option linter.unusedVariables false
set_option linter.unusedSimpArgs false

set_option maxRecDepth 100000 in
set_option maxHeartbeats 2000000 in
theorem Max_any {v : Value} {xs : List Int} {w : World} (hD : Is w v xs) (hne : xs ≠ []) :
    Calls Tryz.prog 142 #[v] w fun e w' => e = .returned (.int .i64 (mx xs)) ∧ Kp w w' := by
  obtain ⟨ao, cap, rfl, hl64, hcell⟩ := hD
  rcases hcell with h0 | ⟨g, o, rfl, -, hcell⟩
  · exact absurd h0 hne
  obtain ⟨a0, r0, rfl⟩ : ∃ a r, xs = a :: r := by
    cases xs with
    | nil => exact absurd rfl hne
    | cons a r => exact ⟨a, r, rfl⟩
  have z0 := hcell 0 a0 rfl
  rw [Nat.add_zero] at z0
  have hx1 : (a0 :: r0).take 1 = [a0] := rfl
  have H1 : Hid (a0 = mx ((a0 :: r0).take 1)) := Lib.hid rfl
  obtain ⟨xs, hxs⟩ : ∃ xs, xs = a0 :: r0 := ⟨_, rfl⟩
  rw [← hxs] at hl64 hcell H1 ⊢
  obtain ⟨len, hlen⟩ : ∃ len, len = xs.length := ⟨_, rfl⟩
  have hlp : 1 ≤ len := by rw [hlen, hxs]; simp
  rw [← hlen] at hl64 ⊢
  have HC := Lib.hid hcell; have HL := Lib.hid hlen
  have HEND : Hid (∀ i : Nat, len ≤ i → mx (xs.take i) = mx xs) := Lib.hid (fun i hi => by rw [List.take_of_length_le (by omega)])
  have HSTEP : Hid (∀ (i : Nat) (x : Int), 1 ≤ i → xs[i]? = some x → mx (xs.take (i + 1)) = max (mx (xs.take i)) x) := Lib.hid (fun i x hi hx => by
    rw [take_snoc hx]
    refine mx_snoc ?_ x
    intro e
    have h1 := congrArg List.length e
    rw [List.length_take, ← hlen] at h1
    have h2 : ([] : List Int).length = 0 := rfl
    rw [h2] at h1
    omega)
  obtain ⟨E, hE⟩ : ∃ E, E = mx xs := ⟨_, rfl⟩
  rw [← hE] at HEND ⊢
  clear hE hlen hcell hxs hx1 hne
  go_enter Tryz.func142, Tryz.ntmps142
  go_wp2_with fail
  go_loopw [3, 4] (fun mv iv wy => ∃ (i : Nat) (m : Int), 1 ≤ i ∧ i ≤ len ∧ iv = .int .i64 i ∧ mv = .int .i64 m ∧ Kp w wy ∧ Hid (m = mx (xs.take i))) (fun _ iv _ => len - (intOf iv).toNat)
  case atStart => exact ⟨1, a0, Nat.le_refl _, hlp, rfl, rfl, Kp.refl _, H1⟩
  case round =>
    obtain ⟨i, m, hi1, hi, rfl, rfl, hkp, HM⟩ := hrel
    have HKP := Lib.hid hkp
    clear hkp z0
    by_cases hil : i < len
    · obtain ⟨x, hx⟩ : ∃ x, xs[i]? = some x := ⟨_, List.getElem?_eq_getElem (by have := HL.out; omega)⟩
      have k0 := cell_kept (HC.out i x hx) HKP.out
      have HNEW : Hid (max m x = mx (xs.take (i + 1))) := Lib.hid (by rw [HSTEP.out i x hi1 hx, ← HM.out])
      clear hx
      by_cases hmx : m ≤ x
      · have h2 : max m x = x := Int.max_eq_right hmx
        rw [h2] at HNEW
        go_wp2_with fail
        go_roundw
        case rel => exact ⟨i + 1, x, by omega, by omega, vint (by omega), by first | rfl | simp [h2] | (congr 1; omega), HKP.out, HNEW⟩
        case measure => simp [intOf]; omega
      · have h2 : max m x = m := Int.max_eq_left (by omega)
        rw [h2] at HNEW
        go_wp2_with fail
        go_roundw
        case rel => exact ⟨i + 1, m, by omega, by omega, vint (by omega), by first | rfl | simp [h2] | (congr 1; omega), HKP.out, HNEW⟩
        case measure => simp [intOf]; omega
    · have FIN : Hid (m = E) := Lib.hid (by rw [HM.out]; exact HEND.out i (by omega))
      go_wp2_with fail
      go_ret
      exact ⟨by rw [← FIN.out]; simp, HKP.out⟩
end By
end Go.Proofs.YtmflgfojicaecaaGreatDoor

/- Check of a source, tenth part: how deeply the nodes of an expression are nested. Conditions: each argument of a node is the number of an earlier one; there is a node, and at most a million. -/
namespace SrcN
/-- The depth of each argument is stored. -/
def setA (v : Int) : List Int → List Int → List Int
  | ds, [] => ds
  | ds, a :: r => setA v (ds.set a.toNat v) r
def dep (n : XN) (x : Int) : Int := if n.k = 4 then x else x + 1
/-- The nodes from the last one on. -/
def nestF (l : List XN) : Nat → List Int → List Int
  | 0, ds => ds
  | i + 1, ds => match l[i]? with
    | some n => nestF l i (setA (dep n (ds[i]?.getD 0)) ds n.args)
    | none => nestF l i ds
def nest0 (n : Nat) : List Int := (List.replicate n 0).set (n - 1) 1
def nest (l : List XN) : Int := mx (nestF l l.length (nest0 l.length))
/-- Depths of n nodes, at most b. -/
structure DB (n : Nat) (b : Int) (ds : List Int) : Prop where
  len : ds.length = n
  bnd : ∀ x ∈ ds, 0 ≤ x ∧ x ≤ b
theorem DB.mono {n : Nat} {b c : Int} {ds : List Int} (h : DB n b ds) (hc : b ≤ c) : DB n c ds := ⟨h.len, fun x hx => ⟨(h.bnd x hx).1, Int.le_trans (h.bnd x hx).2 hc⟩⟩
theorem DB.set {n : Nat} {b : Int} {ds : List Int} (h : DB n b ds) (i : Nat) {v : Int} (h0 : 0 ≤ v) (hv : v ≤ b) : DB n b (ds.set i v) :=
  ⟨by rw [List.length_set]; exact h.len, fun x hx => by
    rcases List.mem_or_eq_of_mem_set hx with h1 | h1
    · exact h.bnd x h1
    · subst h1; exact ⟨h0, hv⟩⟩
theorem DB.start (n : Nat) : DB n 1 (nest0 n) :=
  DB.set ⟨List.length_replicate, fun x hx => by rw [List.eq_of_mem_replicate hx]; omega⟩ _ (by omega) (by omega)
theorem setA_step {v : Int} {ds az : List Int} {t : Nat} {a : Int} (h : az[t]? = some a) : setA v ds (az.drop t) = setA v (ds.set a.toNat v) (az.drop (t + 1)) := by
  obtain ⟨hi, rfl⟩ := List.getElem?_eq_some_iff.1 h
  rw [List.drop_eq_getElem_cons hi]
  rfl
end SrcN
namespace Go.Proofs.YtmflgfojicaecaaGreatDoor
namespace By
open Go.RowKit WireN LexN SrcN
set_option linter.unusedVariables false
set_option linter.unusedSimpArgs false

/-- A block of integers. -/
def IB (W : World) (g : Nat) (ds : List Int) : Prop := Blk W g 3 (icells ds).toArray
theorem IB.cell {W : World} {g : Nat} {ds : List Int} (h : IB W g ds) {i : Nat} {x : Int} (hx : ds[i]? = some x) : W.cell? ⟨g, i, none⟩ = some (.int .i64 x) :=
  Blk.cell h i (by rw [List.getElem?_toArray]; unfold icells; rw [List.getElem?_map, hx]; rfl)
theorem IB.set {W : World} {g : Nat} {ds : List Int} (h : IB W g ds) (i : Nat) (v : Int) : IB (W.setCell ⟨g, i, none⟩ (.int .i64 v)) g (ds.set i v) := by
  have h1 := Blk.set h i (.int .i64 v)
  have e : (icells ds).toArray.setIfInBounds i (.int .i64 v) = (icells (ds.set i v)).toArray := by
    rw [List.setIfInBounds_toArray]
    unfold icells
    rw [List.map_set]
  rw [e] at h1
  exact h1
theorem IB.is {W : World} {g : Nat} {ds : List Int} (h : IB W g ds) (hl : ds.length ≤ 1000000) : Is W (.slice (some ⟨g, 0, none⟩) ds.length ds.length) ds :=
  ⟨_, _, rfl, hl, .inr ⟨g, 0, rfl, Blk.lt h, fun j x hx => by rw [Nat.zero_add]; exact h.cell hx⟩⟩
theorem make_int {n : Nat} (hn : n ≤ 1000000) (W : World) : (Instr.makeSlice 22 (.int .i64 (n : Int)) (.int .i64 (n : Int))).run Tryz.prog W = .ok (.slice (some ⟨W.heap.size, 0, none⟩) n n) (W.alloc (.cells (icells (List.replicate n 0)).toArray 3)) := by
  obtain ⟨i0, hi, hz0, hz1, hz2⟩ := info_parts infoInt
  have h := run_make (P := Tryz.prog) W 22 3 i0 (.int .i64 0) Tryz.underlying22 hi hz0 .i64 .i64 (n : Int) (n : Int) (by omega) (Int.le_refl _) (by rw [hz2]; omega) (by omega)
  rw [hz1, Nat.mul_one, Int.toNat_natCast] at h
  rw [h]
  have e : madeCells (Value.int .i64 0).cells n = (icells (List.replicate n 0)).toArray := by
    apply Array.ext
    · simp [madeCells, icells]
    · intro i h1 h2
      simp [madeCells, icells, Value.cells, Nat.mod_one]
  rw [e]
end By
end Go.Proofs.YtmflgfojicaecaaGreatDoor
