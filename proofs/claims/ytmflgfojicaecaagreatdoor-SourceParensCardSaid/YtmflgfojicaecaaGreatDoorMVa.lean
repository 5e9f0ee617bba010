/- What Parse answers, read as Check and Format read a source. Condition: names have at most a million bytes. -/
import Derived.Test.YtmflgfojicaecaaGreatDoorMCc
import Derived.Test.YtmflgfojicaecaaGreatDoorMCa
import Derived.Lib.ItoaNum
namespace SrcN
open LexN
def Nd.xn (n : Nd) : XN := ⟨n.k, n.num, n.op, n.nm, n.args.map fun (a : Nat) => (a : Int)⟩
def Dc.xd (d : Dc) : XD := ⟨d.k, d.nm, d.ps, d.bd.map Nd.xn⟩
def Src.xs (f : Src) : XS := ⟨f.pk, f.im, f.dc.map Dc.xd⟩
/-- Names that are not too long. -/
def shortS (f : Src) : Bool := f.im.all (fun n => decide (n.length ≤ 1000000)) && f.dc.all (fun d => decide (d.nm.length ≤ 1000000) && d.ps.all (fun n => decide (n.length ≤ 1000000)) && d.bd.all (fun n => decide (n.args.length ≤ 1000000) && decide (n.nm.length ≤ 1000000) && n.nm.all (fun c => decide (c < 256))))
end SrcN
namespace Go.Proofs.YtmflgfojicaecaaGreatDoor
namespace By
open Go.RowKit WireN LexN SrcN
set_option linter.unusedVariables false
set_option linter.unusedSimpArgs false

theorem sts_own {W : World} {v : Value} {ns : List (List Nat)} (h : W.ownsRow 0 9 1 v ns.length (ns.map fun n => Value.string (st n))) (hl : ns.length ≤ 1000000) (ho : ∀ n ∈ ns, Lt n ∧ n.length ≤ 1000000) : Sts W v ns := by
  obtain ⟨ao, c, e⟩ := row_open h
  refine ⟨⟨ao, c, e, hl, ?_⟩, ho⟩
  rcases Nat.eq_zero_or_pos ns.length with h0 | h0
  · exact .inl (List.eq_nil_of_length_eq_zero h0)
  · obtain ⟨g, c', e2, hc, hx⟩ := row_cells h h0
    rw [e] at e2
    simp only [Value.slice.injEq] at e2
    refine .inr ⟨g, 0, e2.1, ?_, fun j x hj => ?_⟩
    · exact World.block_lt_of_cell? W _ (hx 0 (.string (st (ns[0]'h0))) (by simp [h0]))
    · rw [Nat.zero_add]
      exact hx j _ (by rw [List.getElem?_map, hj]; rfl)
theorem is_ints {G : Nat → Prop} {W : World} {v : Value} {xs : List Nat} (h : Ints G W v xs) (hl : xs.length ≤ 1000000) : Is W v (xs.map fun (a : Nat) => (a : Int)) := by
  obtain ⟨ao, c, e, hc, hx⟩ := h.ex
  refine ⟨ao, c, by rw [List.length_map]; exact e, by rw [List.length_map]; exact hl, ?_⟩
  rcases hx with rfl | ⟨b, o, e2, _, hlt, hx⟩
  · exact .inl rfl
  · refine .inr ⟨b, o, e2, hlt, fun j x hj => ?_⟩
    rw [List.getElem?_map] at hj
    obtain ⟨y, hy, rfl⟩ := Option.map_eq_some_iff.1 hj
    exact hx j y hy
theorem ncells_vat : ∀ (ns : List Nd) (vs : List Value) (i : Nat) (n : Nd), vs.length = ns.length → ns[i]? = some n → ∃ v, vs[i]? = some v ∧ ∀ j u, (ncell n v)[j]? = some u → (ncells ns vs)[i * 5 + j]? = some u
  | n :: ns, v :: vs, 0, m, h, hm => by
    simp only [List.getElem?_cons_zero, Option.some.injEq] at hm
    subst hm
    refine ⟨v, rfl, fun j u hu => ?_⟩
    rw [Nat.zero_mul, Nat.zero_add, ncells, List.getElem?_append_left (List.getElem?_eq_some_iff.1 hu).1]
    exact hu
  | n :: ns, v :: vs, i + 1, m, h, hm => by
    rw [List.getElem?_cons_succ] at hm
    obtain ⟨v', h1, h2⟩ := ncells_vat ns vs i m (by simpa using h) hm
    refine ⟨v', by rw [List.getElem?_cons_succ]; exact h1, fun j u hu => ?_⟩
    rw [ncells, List.getElem?_append_right (by simp [ncell]; omega)]
    have e : (i + 1) * 5 + j - (ncell n v).length = i * 5 + j := by simp [ncell]; omega
    rw [e]
    exact h2 j u hu
  | [], _, i, m, h, hm => by simp at hm
  | _ :: _, [], i, m, h, hm => by simp at h
theorem dcells_vat : ∀ (ds : List Dc) (xs : List (Value × Value)) (i : Nat) (d : Dc), xs.length = ds.length → ds[i]? = some d → ∃ x, xs[i]? = some x ∧ ∀ j u, (dcell d x)[j]? = some u → (dcells ds xs)[i * 4 + j]? = some u
  | n :: ns, v :: vs, 0, m, h, hm => by
    simp only [List.getElem?_cons_zero, Option.some.injEq] at hm
    subst hm
    refine ⟨v, rfl, fun j u hu => ?_⟩
    rw [Nat.zero_mul, Nat.zero_add, dcells, List.getElem?_append_left (List.getElem?_eq_some_iff.1 hu).1]
    exact hu
  | n :: ns, v :: vs, i + 1, m, h, hm => by
    rw [List.getElem?_cons_succ] at hm
    obtain ⟨v', h1, h2⟩ := dcells_vat ns vs i m (by simpa using h) hm
    refine ⟨v', by rw [List.getElem?_cons_succ]; exact h1, fun j u hu => ?_⟩
    rw [dcells, List.getElem?_append_right (by simp [dcell]; omega)]
    have e : (i + 1) * 4 + j - (dcell n v).length = i * 4 + j := by simp [dcell]; omega
    rw [e]
    exact h2 j u hu
  | [], _, i, m, h, hm => by simp at hm
  | _ :: _, [], i, m, h, hm => by simp at h
theorem nds_own {G : Nat → Prop} {W : World} {v : Value} {ns : List Nd} {vs : List Value} (hv : vs.length = ns.length) (h : W.ownsRow 0 57 5 v ns.length (ncells ns vs)) (ha : ∀ (i : Nat) (n : Nd) (v : Value), ns[i]? = some n → vs[i]? = some v → Ints G W v n.args) (hl : ns.length ≤ 1000000)
    (ho : ∀ n ∈ ns, n.args.length ≤ 1000000 ∧ n.nm.length ≤ 1000000 ∧ Lt n.nm) : Nds W v (ns.map Nd.xn) := by
  obtain ⟨ao, c, e⟩ := row_open h
  refine ⟨⟨ao, c, by rw [List.length_map]; exact e, by rw [List.length_map]; exact hl, ?_⟩, fun x hx => ?_⟩
  · rcases Nat.eq_zero_or_pos ns.length with h0 | h0
    · exact .inl (by rw [List.eq_nil_of_length_eq_zero h0]; rfl)
    · obtain ⟨g, c', e2, hc, hx⟩ := row_cells h h0
      rw [e] at e2
      simp only [Value.slice.injEq] at e2
      refine .inr ⟨g, 0, e2.1, fun j x hj => ?_⟩
      rw [List.getElem?_map] at hj
      obtain ⟨n, hn, rfl⟩ := Option.map_eq_some_iff.1 hj
      obtain ⟨u, hu, hcell⟩ := ncells_vat ns vs j n hv hn
      have hi := is_ints (ha j n u hn hu) (ho n (List.mem_of_getElem? hn)).1
      obtain ⟨aa, ac, e3, hz, hy⟩ := hi
      rw [Nat.zero_add]
      refine ⟨aa, ac, hx _ _ (hcell 0 _ rfl), hx _ _ (hcell 1 _ rfl), hx _ _ (hcell 2 _ rfl), hx _ _ (hcell 3 _ rfl), ?_, ⟨aa, ac, rfl, hz, hy⟩⟩
      have := hx _ _ (hcell 4 _ rfl)
      rw [this, e3]; rfl
  · obtain ⟨n, hn, rfl⟩ := List.mem_map.1 hx
    exact ⟨(ho n hn).2.2, (ho n hn).2.1⟩
theorem SrcAt.v {F : Nat → Prop} {W : World} {f : Src} {iv dv : Value} {xs : List (Value × Value)} (h : SrcAt F W f iv dv xs) (hs : shortS f = true) : SrcV W iv dv f.xs := by
  obtain ⟨D, h1, h2, -, -⟩ := h.ex
  unfold shortS at hs
  simp only [Bool.and_eq_true, List.all_eq_true, decide_eq_true_eq] at hs
  refine ⟨⟨h.lt.1, by have := h.lt.2; show f.pk.length ≤ 1000000; omega⟩, sts_own h1.own (by have := h1.few; show f.im.length ≤ 1000000; omega) (fun n hn => ⟨h1.ok n hn, hs.1 n hn⟩), ?_⟩
  obtain ⟨ao, c, e⟩ := row_open h2.row.own
  have hfew := h2.row.few
  refine ⟨⟨ao, c, by show dv = .slice ao (f.dc.map Dc.xd).length c; rw [List.length_map]; exact e, by show (f.dc.map Dc.xd).length ≤ 1000000; rw [List.length_map]; omega, ?_⟩, fun x hx => ?_⟩
  · rcases Nat.eq_zero_or_pos f.dc.length with h0 | h0
    · refine .inl ?_
      show f.dc.map Dc.xd = []
      rw [List.eq_nil_of_length_eq_zero h0]; rfl
    · obtain ⟨g, c', e2, hc, hx⟩ := row_cells h2.row.own h0
      rw [e] at e2
      simp only [Value.slice.injEq] at e2
      refine .inr ⟨g, 0, e2.1, fun j x hj => ?_⟩
      replace hj : (f.dc.map Dc.xd)[j]? = some x := hj
      rw [List.getElem?_map] at hj
      obtain ⟨d, hd, rfl⟩ := Option.map_eq_some_iff.1 hj
      obtain ⟨u, hu, hcell⟩ := dcells_vat f.dc xs j d h2.row.len hd
      have hA := h2.all j d u hd hu
      have hsd := hs.2 d (List.mem_of_getElem? hd)
      obtain ⟨pa, pc, ep⟩ := row_open hA.prow
      obtain ⟨vs, hb1, hb2, hb3⟩ := hA.brow
      obtain ⟨ba, bc, eb⟩ := row_open hb2
      have hP := sts_own hA.prow (by have := hA.pfew; omega) (fun n hn => ⟨hA.plt n hn, hsd.1.2 n hn⟩)
      have hB := nds_own hb1 hb2 hb3 (by have := hA.bfew; omega) (fun n hn => ⟨(hsd.2 n hn).1.1, (hsd.2 n hn).1.2, lt_of_mem (hsd.2 n hn).2⟩)
      rw [Nat.zero_add]
      rw [ep] at hP
      rw [eb] at hB
      have h2c := hx _ _ (hcell 2 _ rfl)
      have h3c := hx _ _ (hcell 3 _ rfl)
      refine ⟨pa, pc, ba, bc, hx _ _ (hcell 0 _ rfl), hx _ _ (hcell 1 _ rfl), by rw [h2c, ep]; rfl, ?_, hP, ?_⟩
      · rw [h3c, eb]
        simp [Dc.xd]
      · simpa [Dc.xd] using hB
  · obtain ⟨d, hd, rfl⟩ := List.mem_map.1 hx
    exact ⟨h2.row.ok d hd, (hs.2 d hd).1.1⟩
end By
end Go.Proofs.YtmflgfojicaecaaGreatDoor

/- Bodies as trees. No condition. -/
namespace SrcN
open LexN
/-- An expression ks a tree: kind, number, operator, name, and what is below it. -/
inductive T where
  | mk (k num op : Int) (nm : List Nat) (ks : List T)
mutual
def T.size : T → Nat
  | .mk _ _ _ _ ks => sizes ks + 1
def sizes : List T → Nat
  | [] => 0
  | t :: r => t.size + sizes r
end
/-- The numbers of the roots of trees that are laid one behind the other from o on. -/
def roots : List T → Nat → List Int
  | [], _ => []
  | t :: r, o => ((o + t.size - 1 : Nat) : Int) :: roots r (o + t.size)
mutual
/-- The nodes of a tree, from number o on. -/
def flat : T → Nat → List XN
  | .mk k num op nm ks, o => flats ks o ++ [⟨k, num, op, nm, roots ks o⟩]
def flats : List T → Nat → List XN
  | [], _ => []
  | t :: r, o => flat t o ++ flats r (o + t.size)
end
/-- The test of a tree's nodes. -/
def okN (k num op : Int) (nm : List Nat) (m : Nat) (ps : Int) : Bool := nodeB ⟨k, num, op, nm, List.replicate m 0⟩ ps
mutual
def okT (ps : Int) : T → Bool
  | .mk k num op nm ks => okN k num op nm ks.length ps && okTs ps ks
def okTs (ps : Int) : List T → Bool
  | [] => true
  | t :: r => okT ps t && okTs ps r
end
theorem roots_length : ∀ (ts : List T) (o : Nat), (roots ts o).length = ts.length
  | [], _ => rfl
  | t :: r, o => by simp [roots, roots_length r]
theorem roots_append : ∀ (a b : List T) (o : Nat), roots (a ++ b) o = roots a o ++ roots b (o + sizes a)
  | [], b, o => by simp [roots, sizes]
  | t :: r, b, o => by simp [roots, sizes, roots_append r b, Nat.add_assoc]
theorem sizes_append : ∀ (a b : List T), sizes (a ++ b) = sizes a + sizes b
  | [], b => by simp [sizes]
  | t :: r, b => by simp [sizes, sizes_append r b, Nat.add_assoc]
theorem flats_append : ∀ (a b : List T) (o : Nat), flats (a ++ b) o = flats a o ++ flats b (o + sizes a)
  | [], b, o => by simp [flats, sizes]
  | t :: r, b, o => by simp [flats, sizes, flats_append r b, Nat.add_assoc]
mutual
theorem flat_length : ∀ (t : T) (o : Nat), (flat t o).length = t.size
  | .mk k num op nm ks, o => by simp [flat, T.size, flats_length ks o]
theorem flats_length : ∀ (ts : List T) (o : Nat), (flats ts o).length = sizes ts
  | [], _ => rfl
  | t :: r, o => by simp [flats, sizes, flat_length t o, flats_length r _]
end
theorem size_pos : ∀ t : T, 0 < t.size
  | .mk _ _ _ _ _ => by simp [T.size]
theorem okTs_append (ps : Int) : ∀ (a b : List T), okTs ps (a ++ b) = (okTs ps a && okTs ps b)
  | [], b => by simp [okTs]
  | t :: r, b => by simp [okTs, okTs_append ps r b, Bool.and_assoc]
theorem okN_node {n : XN} {ps : Int} (h : nodeB n ps = true) : okN n.k n.num n.op n.nm n.args.length ps = true := by
  have e : okN n.k n.num n.op n.nm n.args.length ps = nodeB n ps := by
    unfold okN nodeB nodeN nodeO nodeM nodeA
    simp only [List.length_replicate]
  rw [e]; exact h
/-- Nodes in the right order are the nodes of trees. -/
theorem trees_of : ∀ (ps : Int) (r : List XN) (pre : List T) (out : List Int), okTs ps pre = true → bodyF ps (sizes pre) r (roots pre 0) = some out →
    ∃ ts, okTs ps ts = true ∧ flats ts 0 = flats pre 0 ++ r ∧ roots ts 0 = out
  | ps, [], pre, out, hp, h => ⟨pre, hp, by simp, by simpa [bodyF] using h⟩
  | ps, n :: r, pre, out, hp, h => by
    unfold bodyF at h
    by_cases hc : (nodeB n ps && decide (n.args.length ≤ (roots pre 0).length) && ((roots pre 0).drop ((roots pre 0).length - n.args.length) == n.args)) = true
    · rw [if_pos hc] at h
      simp only [Bool.and_eq_true, decide_eq_true_eq, beq_iff_eq] at hc
      obtain ⟨⟨h1, h2⟩, h3⟩ := hc
      rw [roots_length] at h2 h3 h
      obtain ⟨m, hm⟩ : ∃ m, m = pre.length - n.args.length := ⟨_, rfl⟩
      rw [← hm] at h3 h
      have e0 : pre = pre.take m ++ pre.drop m := (List.take_append_drop m pre).symm
      have ld : (pre.drop m).length = n.args.length := by rw [List.length_drop]; omega
      have lt : (pre.take m).length = m := by rw [List.length_take]; omega
      have er : roots pre 0 = roots (pre.take m) 0 ++ roots (pre.drop m) (sizes (pre.take m)) := by
        conv => lhs; rw [e0]
        rw [roots_append, Nat.zero_add]
      have ea : roots (pre.drop m) (sizes (pre.take m)) = n.args := by
        rw [er, List.drop_append, List.drop_eq_nil_of_le (by rw [roots_length, lt]; exact Nat.le_refl _), roots_length, lt] at h3
        simpa using h3
      have et : (roots pre 0).take m = roots (pre.take m) 0 := by
        rw [er, List.take_append_of_le_length (by rw [roots_length, lt]; exact Nat.le_refl _), List.take_of_length_le (by rw [roots_length, lt]; exact Nat.le_refl _)]
      have es : sizes pre = sizes (pre.take m) + sizes (pre.drop m) := by
        conv => lhs; rw [e0]
        rw [sizes_append]
      have ef : flats pre 0 = flats (pre.take m) 0 ++ flats (pre.drop m) (sizes (pre.take m)) := by
        conv => lhs; rw [e0]
        rw [flats_append, Nat.zero_add]
      have eo : okTs ps (pre.take m) = true ∧ okTs ps (pre.drop m) = true := by
        have := hp
        rw [e0, okTs_append, Bool.and_eq_true] at this
        exact this
      have h' : bodyF ps (sizes (pre.take m ++ [T.mk n.k n.num n.op n.nm (pre.drop m)])) r (roots (pre.take m ++ [T.mk n.k n.num n.op n.nm (pre.drop m)]) 0) = some out := by
        rw [roots_append, sizes_append, ← et]
        simp only [roots, sizes, T.size, Nat.zero_add]
        have e1 : sizes (pre.take m) + (sizes (pre.drop m) + 1 + 0) = sizes pre + 1 := by omega
        rw [e1]
        rw [show sizes pre + 1 - 1 = sizes pre by omega]
        exact h
      obtain ⟨ts, g1, g2, g3⟩ := trees_of ps r _ out (by
        rw [okTs_append, eo.1]
        simp only [okTs, okT, eo.2, Bool.and_true, Bool.true_and]
        rw [ld]
        exact okN_node h1) h'
      refine ⟨ts, g1, ?_, g3⟩
      rw [g2, flats_append, ef]
      simp only [flats, flat, Nat.zero_add, List.append_nil, ea, List.append_assoc, List.cons_append, List.nil_append]
    · rw [if_neg hc] at h
      cases h
theorem tree_of {l : List XN} {ps : Int} (h : bodyB l ps = true) : ∃ t, okT ps t = true ∧ l = flat t 0 := by
  unfold bodyB at h
  cases hb : bodyF ps 0 l [] with
  | none => rw [hb] at h; cases h
  | some out =>
    rw [hb] at h
    obtain ⟨ts, h1, h2, h3⟩ := trees_of ps l [] out rfl hb
    match out, h with
    | [x], _ =>
      have : ts.length = 1 := by rw [← roots_length ts 0, h3]; rfl
      match ts, this with
      | [t], _ =>
        refine ⟨t, by simpa [okTs] using h1, ?_⟩
        simpa [flats] using h2.symm
end SrcN

/- The text of a source. No condition. -/
namespace SrcN
open LexN
def opLv (o : Int) : Nat := if o = 1 ∨ o = 2 then 2 else if o = 3 ∨ o = 4 ∨ o = 5 then 3 else if o = 6 ∨ o = 7 then 1 else 0
def opSg (o : Int) : List Nat := if o = 1 then [43] else if o = 2 then [45] else if o = 3 then [42] else if o = 4 then [47] else if o = 5 then [37] else if o = 6 then [60] else if o = 7 then [61, 61] else []
/-- The level of what a node stands for. -/
def lvOf (k op : Int) : Nat := if k = 5 then 0 else if k = 4 then opLv op else 4
def opLf (o : Int) : Nat := if opLv o = 1 then 2 else opLv o
def itoaN (n : Int) : List Nat := (Go.Lib.itoa n).map UInt8.toNat
/-- Texts with a separator. -/
def join (sep : List Nat) : List (List Nat) → List Nat
  | [] => []
  | [x] => x
  | x :: y :: r => x ++ sep ++ join sep (y :: r)
/-- The text of a node, given the texts of what is below it at any level. -/
def txt (ps : List (List Nat)) (k num op : Int) (nm : List Nat) (cs : List (Nat → List Nat)) : List Nat :=
  if k = 1 then itoaN num
  else if k = 2 then ps.getD num.toNat []
  else if k = 3 then nm ++ [40] ++ join [44, 32] (cs.map fun c => c 0) ++ [41]
  else if k = 4 then cs.getD 0 (fun _ => []) (opLf op) ++ ([32] ++ opSg op ++ [32]) ++ cs.getD 1 (fun _ => []) (opLv op + 1)
  else if k = 5 then [105, 102, 32] ++ cs.getD 0 (fun _ => []) 0 ++ [32, 116, 104, 101, 110, 32] ++ cs.getD 1 (fun _ => []) 0 ++ [32, 101, 108, 115, 101, 32] ++ cs.getD 2 (fun _ => []) 0
  else if k = 6 then ([114, 101, 97, 100, 40, 34] ++ nm ++ [34, 44, 32]) ++ cs.getD 0 (fun _ => []) 0 ++ [41]
  else if k = 7 then [115, 105, 122, 101, 40, 34] ++ nm ++ [34, 41]
  else if k = 8 then [104, 97, 115, 40, 34] ++ nm ++ [34, 41]
  else if k = 9 then [101, 110, 118, 40, 34] ++ nm ++ [34, 41]
  else if k = 10 then [102, 108, 105, 112, 40] ++ itoaN num ++ [41]
  else []
mutual
/-- The text of a tree where a level is asked for. -/
def wrT (ps : List (List Nat)) : T → Nat → List Nat
  | .mk k num op nm ks, lv => if lvOf k op < lv then [40] ++ txt ps k num op nm (wrTs ps ks) ++ [41] else txt ps k num op nm (wrTs ps ks)
def wrTs (ps : List (List Nat)) : List T → List (Nat → List Nat)
  | [] => []
  | t :: r => wrT ps t :: wrTs ps r
end
theorem wrTs_eq (ps : List (List Nat)) : ∀ ts : List T, wrTs ps ts = ts.map (wrT ps)
  | [] => rfl
  | t :: r => by simp [wrTs, wrTs_eq ps r]
/-- The text of a source. -/
def headT (k : Int) (nm : List Nat) (ps : List (List Nat)) : List Nat :=
  if k = 1 then [102, 117, 110, 99, 32] ++ nm ++ [40] ++ join [44, 32] ps ++ [41]
  else if k = 2 then [116, 101, 115, 116, 32] ++ nm
  else if k = 3 then [103, 101, 110, 32, 34] ++ nm ++ [34]
  else []
/-- A declaration with its body ks a tree. -/
structure TD where
  k : Int
  nm : List Nat
  ps : List (List Nat)
  t : T
def TD.xd (d : TD) : XD := ⟨d.k, d.nm, d.ps, flat d.t 0⟩
def declT (d : TD) : List Nat := headT d.k d.nm d.ps ++ [32, 61, 32] ++ wrT d.ps d.t 0 ++ [59, 10]
def declsT : List TD → List Nat
  | [] => []
  | d :: r => declT d ++ declsT r
def importsT : List (List Nat) → List Nat
  | [] => []
  | q :: r => ([105, 109, 112, 111, 114, 116, 32] ++ q ++ [59, 10]) ++ importsT r
def fileT (pk : List Nat) (im : List (List Nat)) (ds : List TD) : List Nat := ([112, 97, 99, 107, 97, 103, 101, 32] ++ pk ++ [59, 10]) ++ importsT im ++ declsT ds
theorem nm_len {l : List Nat} (h : isNm l = true) : l.length ≤ 24 := by
  unfold isNm nameB cons at h
  simp only [Bool.and_eq_true, decide_eq_true_eq] at h
  omega
theorem nDig_le : ∀ (k u : Nat), u < 10 ^ (k + 1) → Go.Lib.nDigits u ≤ k + 1
  | 0, u, h => by rw [Go.Lib.nDigits_small (by simpa using h)]; omega
  | k + 1, u, h => by
    by_cases hu : u < 10
    · rw [Go.Lib.nDigits_small hu]; omega
    · rw [Go.Lib.nDigits_big hu]
      have := nDig_le k (u / 10) (by rw [Nat.pow_succ] at h; omega)
      omega
theorem itoaN_len {n : Int} (h1 : -9007199254740992 ≤ n) (h2 : n ≤ 9007199254740992) : (itoaN n).length ≤ 17 := by
  have hd : ∀ u : Nat, u ≤ 9007199254740992 → (Go.Lib.decDigits u).length ≤ 16 := by
    intro u hu
    rw [Go.Lib.decDigits_length]
    exact nDig_le 15 u (by omega)
  unfold itoaN Go.Lib.itoa
  rw [List.length_map]
  split
  · have := hd n.natAbs (by omega)
    simp only [List.length_cons]; omega
  · have := hd n.toNat (by omega)
    omega
theorem size_mem : ∀ {ts : List T} {t : T}, t ∈ ts → t.size ≤ sizes ts
  | a :: r, t, h => by
    simp only [sizes]
    rcases List.mem_cons.1 h with rfl | h
    · omega
    · have := size_mem h; omega
theorem okTs_mem {ps : Int} : ∀ {ts : List T} {t : T}, okTs ps ts = true → t ∈ ts → okT ps t = true
  | a :: r, t, h, hm => by
    simp only [okTs, Bool.and_eq_true] at h
    rcases List.mem_cons.1 hm with rfl | hm
    · exact h.1
    · exact okTs_mem h.2 hm
/-- What the test of a node says, kind by kind. -/
theorem okN_cases {k num op : Int} {nm : List Nat} {m : Nat} {ps : Int} (h : okN k num op nm m ps = true) :
    (k = 1 ∧ -9007199254740992 ≤ num ∧ num ≤ 9007199254740992 ∧ op = 0 ∧ nm = [] ∧ m = 0) ∨
    (k = 2 ∧ 0 ≤ num ∧ num < ps ∧ op = 0 ∧ nm = [] ∧ m = 0) ∨
    (k = 3 ∧ num = 0 ∧ op = 0 ∧ isNm nm = true) ∨
    (k = 4 ∧ num = 0 ∧ 1 ≤ op ∧ op ≤ 7 ∧ nm = [] ∧ m = 2) ∨
    (k = 5 ∧ num = 0 ∧ op = 0 ∧ nm = [] ∧ m = 3) ∨
    (k = 6 ∧ num = 0 ∧ op = 0 ∧ pathB nm = true ∧ m = 1) ∨
    (k = 7 ∧ num = 0 ∧ op = 0 ∧ pathB nm = true ∧ m = 0) ∨
    (k = 8 ∧ num = 0 ∧ op = 0 ∧ pathB nm = true ∧ m = 0) ∨
    (k = 9 ∧ num = 0 ∧ op = 0 ∧ nameB nm = true ∧ m = 0) ∨
    (k = 10 ∧ 0 ≤ num ∧ num < 64 ∧ op = 0 ∧ nm = [] ∧ m = 0) := by
  unfold okN nodeB nodeN nodeO nodeM nodeA at h
  simp only [Bool.and_eq_true, decide_eq_true_eq, List.length_replicate] at h
  obtain ⟨h1, h2, h3, h4, h5, h6⟩ := h
  obtain rfl | rfl | rfl | rfl | rfl | rfl | rfl | rfl | rfl | rfl : k = 1 ∨ k = 2 ∨ k = 3 ∨ k = 4 ∨ k = 5 ∨ k = 6 ∨ k = 7 ∨ k = 8 ∨ k = 9 ∨ k = 10 := by omega
  all_goals simp at h3 h4 h5 h6
  all_goals simp [h3, h4, h5, h6]
theorem okT_split {k num op : Int} {nm : List Nat} {ks : List T} {ps : Int} (h : okT ps (.mk k num op nm ks) = true) : okN k num op nm ks.length ps = true ∧ okTs ps ks = true := by
  simpa [okT] using h
theorem join_len : ∀ (xs : List (List Nat)) (f : List Nat → Nat) (_ : ∀ x ∈ xs, x.length + 2 ≤ f x), (join [44, 32] xs).length ≤ (xs.map f).sum
  | [], f, h => by simp [join]
  | [x], f, h => by
    have := h x (by simp)
    simp [join]; omega
  | x :: y :: r, f, h => by
    have h1 := h x (by simp)
    have h2 := join_len (y :: r) f (fun z hz => h z (List.mem_cons_of_mem _ hz))
    simp only [join, List.length_append, List.map_cons, List.sum_cons, List.length_cons, List.length_nil] at h2 ⊢
    omega
theorem pm_len {ps : List (List Nat)} (hp : ∀ p ∈ ps, p.length ≤ 24) (i : Nat) : (ps.getD i []).length ≤ 24 := by
  rw [List.getD_eq_getElem?_getD]
  cases h : ps[i]? with
  | none => simp
  | some x => exact hp x (List.mem_of_getElem? h)
theorem opSg_len (o : Int) : (opSg o).length ≤ 2 := by
  unfold opSg
  repeat' split
  all_goals simp
theorem path_len {l : List Nat} (h : pathB l = true) : l.length ≤ 80 := by
  unfold pathB at h
  first
  | (simp only [Bool.and_eq_true, decide_eq_true_eq] at h; exact h.1)
  | simpa using h
theorem name_len {l : List Nat} (h : nameB l = true) : l.length ≤ 24 := by
  unfold nameB cons at h
  simp only [Bool.and_eq_true, decide_eq_true_eq] at h
  omega
theorem kids_len {ps : List (List Nat)} : ∀ (ts : List T), (∀ t ∈ ts, ∀ lv, (wrT ps t lv).length + 100 ≤ 400 * t.size) → (join [44, 32] ((wrTs ps ts).map fun c => c 0)).length ≤ 400 * sizes ts
  | [], h => by simp [wrTs, join, sizes]
  | [t], h => by
    have := h t (by simp) 0
    simp [wrTs, join, sizes]; omega
  | t :: u :: r, h => by
    have h1 := h t (by simp) 0
    have h2 := kids_len (u :: r) (fun x hx => h x (List.mem_cons_of_mem _ hx))
    simp only [wrTs, List.map_cons, join, List.length_append, sizes, List.length_cons, List.length_nil] at h2 ⊢
    omega
theorem wrT_len {ps : List (List Nat)} (hp : ∀ p ∈ ps, p.length ≤ 24) : ∀ (n : Nat) (t : T) (lv : Nat), t.size ≤ n → okT ps.length t = true → (wrT ps t lv).length + 100 ≤ 400 * t.size
  | 0, t, lv, hn, _ => by have := size_pos t; omega
  | n + 1, .mk k num op nm ks, lv, hn, hok => by
    obtain ⟨h1, h2⟩ := okT_split hok
    simp only [T.size] at hn ⊢
    have hk : ∀ t ∈ ks, ∀ lv, (wrT ps t lv).length + 100 ≤ 400 * t.size := fun t ht lv => wrT_len hp n t lv (by have := size_mem ht; omega) (okTs_mem h2 ht)
    have hx : (txt ps k num op nm (wrTs ps ks)).length + 102 ≤ 400 * (sizes ks + 1) := by
      rcases okN_cases h1 with ⟨rfl, a, b, rfl, rfl, hm⟩ | ⟨rfl, a, b, rfl, rfl, hm⟩ | ⟨rfl, rfl, rfl, a⟩ | ⟨rfl, rfl, a, b, rfl, hm⟩ | ⟨rfl, rfl, rfl, rfl, hm⟩ | ⟨rfl, rfl, rfl, a, hm⟩ | ⟨rfl, rfl, rfl, a, hm⟩ | ⟨rfl, rfl, rfl, a, hm⟩ | ⟨rfl, rfl, rfl, a, hm⟩ | ⟨rfl, a, b, rfl, rfl, hm⟩
      · have := itoaN_len a b
        simp [txt]; omega
      · have := pm_len hp num.toNat
        rw [List.getD_eq_getElem?_getD] at this
        simp only [txt]
        simp; omega
      · have := kids_len ks hk
        have := nm_len a
        simp [txt] at *; omega
      · match ks, hm, hk with
        | [x, y], _, hk =>
          have e1 := hk x (by simp) (opLf op)
          have e2 := hk y (by simp) (opLv op + 1)
          have e3 := opSg_len op
          simp [txt, wrTs, sizes]; omega
      · match ks, hm, hk with
        | [x, y, z], _, hk =>
          have e1 := hk x (by simp) 0
          have e2 := hk y (by simp) 0
          have e3 := hk z (by simp) 0
          simp [txt, wrTs, sizes]; omega
      · match ks, hm, hk with
        | [x], _, hk =>
          have e1 := hk x (by simp) 0
          have := path_len a
          simp [txt, wrTs, sizes]; omega
      · have := path_len a
        simp [txt]; omega
      · have := path_len a
        simp [txt]; omega
      · have := name_len a
        simp [txt]; omega
      · have := itoaN_len (n := num) (by omega) (by omega)
        simp [txt]; omega
    unfold wrT
    split
    · simp only [List.length_append, List.length_cons, List.length_nil]; omega
    · omega
end SrcN
