/- The reference's Find and Get. Condition: at most a million texts. -/
import Derived.Test.YtlfoikjbbbhbdaaMCa
import Derived.Laws.AppendOwnNone
namespace Go.Proofs.Ytlfoikjbbbhbdaa
namespace By
open Go.RowKit WireN CtN
set_option linter.unusedVariables false
set_option linter.unusedSimpArgs false

/-- What Find answers. -/
def fdB (x : Tx) (ts : List Tx) : Bool := decide (err ts = 0 ∧ x ∈ ts)
def fdN (x : Tx) (ts : List Tx) : Nat := if err ts = 0 ∧ x ∈ ts then fnd x ts else 0
/-- What Get answers. -/
def gtE (n : Int) (ts : List Tx) : Nat := if err ts ≠ 0 then err ts else if 0 ≤ n ∧ n < ts.length then 0 else 20
def gtT (n : Int) (ts : List Tx) : Tx := if gtE n ts = 0 then ts[n.toNat]?.getD [] else []
theorem fndI_ge {x : Tx} {ts : List Tx} (h : x ∈ ts) : fndI x ts = (fnd x ts : Nat) := if_pos h
theorem fndI_no {x : Tx} {ts : List Tx} (h : x ∉ ts) : fndI x ts = -1 := if_neg h
set_option maxRecDepth 100000 in
set_option maxHeartbeats 1000000 in
theorem rFindT_any {w : World} {v : Value} {ts : List Tx} (hs : Tw w v ts) (hn2 : ts.length ≤ 140737488355328) {x : Tx} (hx : Lt x) :
    Calls Try.prog 12 #[.agg #[v], .string (st x)] w fun e w' => e = .returned (.tuple #[.int .i64 (fdN x ts : Nat), .bool (fdB x ts)]) ∧ Kp w w' := by
  obtain ⟨W, hW⟩ : ∃ W, W = w.alloc (.cells #[v] 25) := ⟨_, rfl⟩
  have hk0 : Kp w W := by rw [hW]; exact kp_alloc _ _
  have hb0 : Blk W w.heap.size 25 #[v] := by rw [hW]; exact Blk.new _ _ _
  have HA := Lib.hid (rfind_any (hs.keep hk0) hn2 hx)
  have HB : Hid (∀ w1 : World, Kp W w1 → Calls Try.prog 10 #[.agg #[v]] w1 fun e w' => e = .returned (.int .i64 (err ts : Nat)) ∧ Kp w1 w') := Lib.hid (fun w1 hk => rCheckT_any (hs.keep (hk0.trans hk)))
  have HW := Lib.hid hW; have HK := Lib.hid hk0; have HBL := Lib.hid hb0
  have c0 := hb0.cell 0 rfl
  obtain ⟨N, hN⟩ : ∃ N, N = fdN x ts := ⟨_, rfl⟩
  obtain ⟨B, hB⟩ : ∃ B, B = fdB x ts := ⟨_, rfl⟩
  rw [← hN, ← hB]
  have HN := Lib.hid hN; have HBB := Lib.hid hB
  obtain ⟨E, hE⟩ : ∃ E, E = err ts := ⟨_, rfl⟩
  have HE := Lib.hid hE
  obtain ⟨ao, cap, rfl, -, -, -⟩ := hs.open3
  rw [← hE] at HB
  clear hs hk0 hb0 hW hN hB hE
  by_cases hm : x ∈ ts
  · rw [fndI_ge hm] at HA
    have hF : (0 : Int) ≤ ((fnd x ts : Nat) : Int) := by omega
    obtain ⟨F, hFF⟩ : ∃ F, F = fnd x ts := ⟨_, rfl⟩
    rw [← hFF] at HA hF
    by_cases he : E = 0
    · have F1 : Hid (F = N) := Lib.hid (by rw [HN.out, fdN, if_pos ⟨HE.out ▸ he, hm⟩, hFF])
      have F2 : Hid (true = B) := Lib.hid (by rw [HBB.out, fdB]; exact (decide_eq_true ⟨HE.out ▸ he, hm⟩).symm)
      have q : ((E : Int) == 0) = true := beq_iff_eq.2 (by omega)
      clear hm he hFF
      go_enter Try.func12, Try.ntmps12
      go_wp2_with fail
      rw [← HW.out]
      refine HA.out.mono ?_
      rintro e w1 ⟨rfl, hk1⟩
      have c1 := (HBL.out.keep hk1).cell 0 rfl
      have HC := Lib.hid (HB.out _ hk1)
      have HK1 := Lib.hid hk1
      clear hk1
      go_wp2_with fail
      refine HC.out.mono ?_
      rintro e w2 ⟨rfl, hk2⟩
      have HK2 := Lib.hid hk2
      clear hk2
      go_wp2_with fail
      go_ret2
      exact ⟨by rw [← F1.out, ← F2.out]; rfl, (HK.out.trans HK1.out).trans HK2.out⟩
    · have F1 : Hid (0 = N) := Lib.hid (by rw [HN.out, fdN, if_neg (fun h => he (HE.out.trans h.1))])
      have F2 : Hid (false = B) := Lib.hid (by rw [HBB.out, fdB]; exact (decide_eq_false (fun h => he (HE.out.trans h.1))).symm)
      have q : ((E : Int) == 0) = false := beq_eq_false_iff_ne.2 (by omega)
      clear hm he hFF
      go_enter Try.func12, Try.ntmps12
      go_wp2_with fail
      rw [← HW.out]
      refine HA.out.mono ?_
      rintro e w1 ⟨rfl, hk1⟩
      have c1 := (HBL.out.keep hk1).cell 0 rfl
      have HC := Lib.hid (HB.out _ hk1)
      have HK1 := Lib.hid hk1
      clear hk1
      go_wp2_with fail
      refine HC.out.mono ?_
      rintro e w2 ⟨rfl, hk2⟩
      have HK2 := Lib.hid hk2
      clear hk2
      go_wp2_with fail
      go_ret2
      exact ⟨by rw [← F1.out, ← F2.out]; rfl, (HK.out.trans HK1.out).trans HK2.out⟩
  · rw [fndI_no hm] at HA
    have F1 : Hid (0 = N) := Lib.hid (by rw [HN.out, fdN, if_neg (fun h => hm h.2)])
    have F2 : Hid (false = B) := Lib.hid (by rw [HBB.out, fdB]; exact (decide_eq_false (fun h => hm h.2)).symm)
    obtain ⟨b, hb⟩ : ∃ b, b = ((E : Int) == 0) := ⟨_, rfl⟩
    have q : ((E : Int) == 0) = b := hb.symm
    clear hm hb
    cases b <;>
    · go_enter Try.func12, Try.ntmps12
      go_wp2_with fail
      rw [← HW.out]
      refine HA.out.mono ?_
      rintro e w1 ⟨rfl, hk1⟩
      have c1 := (HBL.out.keep hk1).cell 0 rfl
      have HC := Lib.hid (HB.out _ hk1)
      have HK1 := Lib.hid hk1
      clear hk1
      go_wp2_with fail
      refine HC.out.mono ?_
      rintro e w2 ⟨rfl, hk2⟩
      have HK2 := Lib.hid hk2
      clear hk2
      go_wp2_with fail
      go_ret2
      exact ⟨by rw [← F1.out, ← F2.out]; rfl, (HK.out.trans HK1.out).trans HK2.out⟩
theorem gtE_bad {n : Int} {ts : List Tx} (h : err ts ≠ 0) : gtE n ts = err ts := if_pos h
theorem gtE_out {n : Int} {ts : List Tx} (h : err ts = 0) (hn : ¬ (0 ≤ n ∧ n < ts.length)) : gtE n ts = 20 := by rw [gtE, if_neg (by simp [h]), if_neg hn]
theorem gtE_in {n : Int} {ts : List Tx} (h : err ts = 0) (hn : 0 ≤ n ∧ n < ts.length) : gtE n ts = 0 := by rw [gtE, if_neg (by simp [h]), if_pos hn]
theorem gtT_no {n : Int} {ts : List Tx} (h : gtE n ts ≠ 0) : gtT n ts = [] := if_neg h
theorem gtT_ok {n : Int} {ts : List Tx} (h : gtE n ts = 0) : gtT n ts = ts[n.toNat]?.getD [] := if_pos h
theorem ret2_ss {S T : ByteArray} {a b : Nat} (h1 : S = T) (h2 : a = b) : Ending.returned (.tuple #[.string S, .int .i64 (a : Nat)]) = Ending.returned (.tuple #[.string T, .int .i64 (b : Nat)]) := by rw [h1, h2]
set_option maxRecDepth 100000 in
set_option maxHeartbeats 1000000 in
theorem rGetT_any {w : World} {v : Value} {ts : List Tx} (hs : Tw w v ts) (n : Int) :
    Calls Try.prog 17 #[.agg #[v], .int .i64 n] w fun e w' => e = .returned (.tuple #[.string (st (gtT n ts)), .int .i64 (gtE n ts : Nat)]) ∧ Kp w w' := by
  obtain ⟨W, hW⟩ : ∃ W, W = w.alloc (.cells #[v] 25) := ⟨_, rfl⟩
  have hk0 : Kp w W := by rw [hW]; exact kp_alloc _ _
  have hb0 : Blk W w.heap.size 25 #[v] := by rw [hW]; exact Blk.new _ _ _
  have HB := Lib.hid (rCheckT_any (hs.keep hk0))
  have HW := Lib.hid hW; have HK := Lib.hid hk0; have HBL := Lib.hid hb0; have HS := Lib.hid hs
  have c0 := hb0.cell 0 rfl
  obtain ⟨N, hN⟩ : ∃ N, N = gtE n ts := ⟨_, rfl⟩
  obtain ⟨B, hB⟩ : ∃ B, B = st (gtT n ts) := ⟨_, rfl⟩
  rw [← hN, ← hB]
  have HN := Lib.hid hN; have HBB := Lib.hid hB
  obtain ⟨E, hE⟩ : ∃ E, E = err ts := ⟨_, rfl⟩
  have HE := Lib.hid hE
  obtain ⟨ao, cap, rfl, hcap, -, -⟩ := hs.open3
  obtain ⟨m, hm⟩ : ∃ m, m = ts.length := ⟨_, rfl⟩
  rw [← hm] at HW HBL HS HB c0 hcap ⊢
  have HM := Lib.hid hm
  have i1 : (m : Int) ≤ (cap : Int) := by omega
  rw [← hE] at HB
  clear hs hk0 hb0 hW hN hB hE hcap hm
  by_cases he : E = 0
  · have q : ((E : Int) != 0) = false := by simp [he]
    by_cases hn : 0 ≤ n ∧ n < (m : Int)
    · have F1 : Hid (0 = N) := Lib.hid (by rw [HN.out]; exact (gtE_in (HE.out ▸ he) (by rw [← HM.out]; exact hn)).symm)
      obtain ⟨h1, h2⟩ := hn
      obtain ⟨k, rfl⟩ : ∃ k : Nat, n = (k : Int) := ⟨n.toNat, by omega⟩
      obtain ⟨x, hx⟩ : ∃ x, ts[k]? = some x := ⟨_, List.getElem?_eq_getElem (by have := HM.out; omega)⟩
      have F2 : Hid (st x = B) := Lib.hid (by rw [HBB.out, gtT_ok (by rw [← HN.out, F1.out]), Int.toNat_natCast, hx]; rfl)
      obtain ⟨b, off, rfl, hcell⟩ := HS.out.cell (by omega)
      have HX := Lib.hid (hcell k x hx)
      clear hcell hx h1 he
      go_enter Try.func17, Try.ntmps17
      go_wp2_with fail
      rw [← HW.out]
      refine HB.out.mono ?_
      rintro e w1 ⟨rfl, hk1⟩
      have c1 := (HBL.out.keep hk1).cell 0 rfl
      have c2 := cell_kept HX.out (HK.out.trans hk1)
      have HK1 := Lib.hid hk1
      clear hk1
      go_wp2_with fail
      go_ret2
      exact ⟨ret2_ss F2.out F1.out, HK.out.trans HK1.out⟩
    · have F1 : Hid (20 = N) := Lib.hid (by rw [HN.out]; exact (gtE_out (HE.out ▸ he) (by rw [← HM.out]; exact hn)).symm)
      have F2 : Hid (⟨#[]⟩ = B) := Lib.hid (by rw [HBB.out, gtT_no (by rw [← HN.out, ← F1.out]; decide)]; rfl)
      by_cases h1 : n < 0
      · clear hn he
        go_enter Try.func17, Try.ntmps17
        go_wp2_with fail
        rw [← HW.out]
        refine HB.out.mono ?_
        rintro e w1 ⟨rfl, hk1⟩
        have c1 := (HBL.out.keep hk1).cell 0 rfl
        have HK1 := Lib.hid hk1
        clear hk1
        go_wp2_with fail
        go_ret2
        exact ⟨ret2_ss F2.out F1.out, HK.out.trans HK1.out⟩
      · have h2 : (m : Int) ≤ n := by omega
        have h0 : (0 : Int) ≤ n := by omega
        clear hn he h1
        go_enter Try.func17, Try.ntmps17
        go_wp2_with fail
        rw [← HW.out]
        refine HB.out.mono ?_
        rintro e w1 ⟨rfl, hk1⟩
        have c1 := (HBL.out.keep hk1).cell 0 rfl
        have HK1 := Lib.hid hk1
        clear hk1
        go_wp2_with fail
        go_ret2
        exact ⟨ret2_ss F2.out F1.out, HK.out.trans HK1.out⟩
  · have q : ((E : Int) != 0) = true := by simp; omega
    have F1 : Hid (E = N) := Lib.hid (by rw [HN.out, HE.out]; exact (gtE_bad (HE.out ▸ he)).symm)
    have F2 : Hid (⟨#[]⟩ = B) := Lib.hid (by rw [HBB.out, gtT_no (by rw [← HN.out, ← F1.out]; exact he)]; rfl)
    clear he
    go_enter Try.func17, Try.ntmps17
    go_wp2_with fail
    rw [← HW.out]
    refine HB.out.mono ?_
    rintro e w1 ⟨rfl, hk1⟩
    have c1 := (HBL.out.keep hk1).cell 0 rfl
    have HK1 := Lib.hid hk1
    clear hk1
    go_wp2_with fail
    go_ret2
    exact ⟨ret2_ss F2.out F1.out, HK.out.trans HK1.out⟩
end By
end Go.Proofs.Ytlfoikjbbbhbdaa

/- The reference's Put. Condition: at most a million texts. -/
namespace Go.Proofs.Ytlfoikjbbbhbdaa
namespace By
open Go.RowKit WireN CtN
set_option linter.unusedVariables false
set_option linter.unusedSimpArgs false

/-- append of all texts of a slice to no row at all: a copy. -/
theorem wpList_cln {wx : World} {ops : Array Oper} {rest : List Oper} {o : Oper} {a : Act} {Q : Exit → Act → World → Prop} (hgd : o.guard = none) (s x : Operand)
    (ho : o.op = .call { callee := .builtin .append, args := #[s, x], argTypes := #[23, 23] })
    (hs : a.eval s = .slice none 0 0) {v : Value} {us : List Tx} (hx : a.eval x = v) (hT : Tw wx v us) (hu1 : us.length ≤ 1000000)
    (h : ∀ v' w', OwT wx w' v' us → wpList Try.prog ops Q rest (a.put o.dst v') w') : wpList Try.prog ops Q (o :: rest) a wx := by
  obtain ⟨ao, cap, rfl, hc, hm, hnone⟩ := hT.open3
  by_cases h0 : us = []
  · subst h0
    cases ao with
    | none =>
      obtain rfl : cap = 0 := hnone rfl
      obtain ⟨i, hi, hz, hsize, hby⟩ := info_parts infoTx
      exact wpList_append_own_none hgd s x _ ho wx.heap.size _ i 1 Try.underlying23 hi _ 0 [] hs (World.ownsRow_nil _ _ _ _) hx (h _ _ (OwT.start wx))
    | some ad =>
      obtain ⟨i, hi, hz, hsize, hby⟩ := info_parts infoTx
      refine wpList_append_own_at (P := Try.prog) wx hgd s x _ ho wx.heap.size _ i _ 1 16 Try.underlying23 hi hz hsize hby rfl (by omega) _ 0 [] hs (World.ownsRow_nil _ _ _ _) ad 0 cap [] hx rfl (fun j u hu => by simp at hu) (fun u hu => by simp at hu) (by unfold maxLen; omega) (by omega) (Nat.le_refl _) ?_
      intro v' w' h1 h2 h3 h4
      exact h v' w' ⟨h1, fun y hy => by simp at hy, Below.grown (Kp.refl _) h2 (Nat.le_refl _) (fun k hk => by simp [Value.ownBlock] at hk)⟩
  · have hpos : 0 < us.length := List.length_pos_iff.2 h0
    obtain ⟨b, off, rfl, -⟩ := hT.cell hpos
    refine wpList_txs (w := wx) hgd s x ho _ hs (OwT.start wx) (by simp) hu1 hpos b off cap hx hT ?_
    intro v' w' h1 h2 h3
    exact h v' w' (by simpa using h1)
/-- What Put answers. -/
def ptE (x : Tx) (ts : List Tx) : Nat := if err ts ≠ 0 then err ts else if x ∉ ts ∧ ts.length = 4096 then 2 else 0
def ptL (x : Tx) (ts : List Tx) : List Tx := if ptE x ts = 0 then add ts x else []
def ptN (x : Tx) (ts : List Tx) : Nat := if ptE x ts = 0 then fnd x (add ts x) else 0
theorem ptE_bad {x : Tx} {ts : List Tx} (h : err ts ≠ 0) : ptE x ts = err ts := if_pos h
theorem ptE_in {x : Tx} {ts : List Tx} (h : err ts = 0) (hx : x ∈ ts) : ptE x ts = 0 := by rw [ptE, if_neg (by simp [h]), if_neg (by simp [hx])]
theorem ptE_full {x : Tx} {ts : List Tx} (h : err ts = 0) (hx : x ∉ ts) (hl : ts.length = 4096) : ptE x ts = 2 := by rw [ptE, if_neg (by simp [h]), if_pos ⟨hx, hl⟩]
theorem ptE_new {x : Tx} {ts : List Tx} (h : err ts = 0) (hl : ts.length ≠ 4096) : ptE x ts = 0 := by rw [ptE, if_neg (by simp [h]), if_neg (fun e => hl e.2)]
theorem ptL_no {x : Tx} {ts : List Tx} (h : ptE x ts ≠ 0) : ptL x ts = [] ∧ ptN x ts = 0 := ⟨if_neg h, if_neg h⟩
theorem ptL_ok {x : Tx} {ts : List Tx} (h : ptE x ts = 0) : ptL x ts = add ts x ∧ ptN x ts = fnd x (add ts x) := ⟨if_pos h, if_pos h⟩
/-- A slice keeps its texts where a cell of another block is set. -/
theorem Tw.setc {w : World} {v : Value} {ts : List Tx} {g i : Nat} {u : Value} (h : Tw w v ts) (hne : ∀ b, v.ownBlock = some b → b ≠ g) : Tw (w.setCell ⟨g, i, none⟩ u) v ts := by
  refine h.by (row := some g) (Only.gr ((Only.refl g w).set i u)) (fun b hb e => ?_)
  injection e with e
  exact hne b hb e.symm
theorem Tw.drew {w : World} {v : Value} {ts : List Tx} (h : Tw w v ts) : Tw w.drew v ts := h.keep (kp_drew w)
end By
end Go.Proofs.Ytlfoikjbbbhbdaa

/- The reference's Put. Condition: at most a million texts. -/
namespace Go.Proofs.Ytlfoikjbbbhbdaa
namespace By
open Go.RowKit WireN CtN
set_option linter.unusedVariables false
set_option linter.unusedSimpArgs false

/-- What Put leaves. -/
def PutR (x : Tx) (ts : List Tx) (w : World) (e : Ending) (w' : World) : Prop :=
  ∃ u, e = .returned (.tuple #[.agg #[u], .int .i64 (ptN x ts : Nat), .int .i64 (ptE x ts : Nat)]) ∧ Tw w' u (ptL x ts) ∧ (∀ b, u.ownBlock = some b → w.heap.size ≤ b) ∧ Kp w w'
set_option maxRecDepth 100000 in
set_option maxHeartbeats 4000000 in
theorem rPutT_any {w : World} {v : Value} {ts : List Tx} (hs : Tw w v ts) (hn2 : ts.length ≤ 1000000) {x : Tx} (hx : TxOk x) :
    Calls Try.prog 14 #[.agg #[v], .string (st x)] w (PutR x ts w) := by
  obtain ⟨Q, hQ⟩ : ∃ Q, Q = PutR x ts w := ⟨_, rfl⟩
  rw [← hQ]
  obtain ⟨W, hW⟩ : ∃ W, W = (w.alloc (.cells #[v] 25)).alloc (.cells #[.slice none 0 0] 25) := ⟨_, rfl⟩
  have hk0 : Kp w W := by rw [hW]; exact Kp.alloc (kp_alloc _ _) _
  have b1 : Blk W w.heap.size 25 #[v] := by rw [hW]; exact (Blk.new _ _ _).keep (kp_alloc _ _)
  have b2 : Blk W (w.heap.size + 1) 25 #[.slice none 0 0] := by
    have := Blk.new (w.alloc (.cells #[v] 25)) 25 #[.slice none 0 0]
    rw [hW]
    simpa using this
  have hsz : W.heap.size = w.heap.size + 2 := by rw [hW]; simp
  have FIN : Hid (∀ (W' : World) (u0 u : Value) (N E : Nat) (a : Act), Blk W' (w.heap.size + 1) 25 #[u0] → Kp w W' → a.defers = [] → a.tmps.getD 4 undef = .pointer (some ⟨w.heap.size + 1, 0, none⟩) → a.tmps.getD 5 undef = .int .i64 (N : Nat) → a.tmps.getD 6 undef = .int .i64 (E : Nat) → Tw W' u (ptL x ts) → (∀ b, u.ownBlock = some b → w.heap.size + 2 ≤ b) → N = ptN x ts → E = ptE x ts →
      bodyPost Try.prog Try.f14 Q .ret a (W'.setCell ⟨w.heap.size + 1, 0, none⟩ u)) := Lib.hid (by
    intro W' u0 u N E a hb hk h0 h4 h5 h6 hT hu hN hE
    have b3 := hb.set 0 u
    have e0 := b3.cell 0 (v := u) rfl
    have h4' : a.tmps[4]?.getD undef = .pointer (some ⟨w.heap.size + 1, 0, none⟩) := by simpa using h4
    have h5' : a.tmps[5]?.getD undef = .int .i64 (N : Nat) := by simpa using h5
    have h6' : a.tmps[6]?.getD undef = .int .i64 (E : Nat) := by simpa using h6
    refine bodyPost_ret (v := .tuple #[.agg #[u], .int .i64 (N : Nat), .int .i64 (E : Nat)]) (by simp [results, Try.results14, go_sem, h4', h5', h6', e0]) h0 ?_
    rw [hQ]
    exact ⟨u, by rw [hN, hE], hT.setc (fun b hb2 => by have := hu b hb2; omega), fun b hb2 => by have := hu b hb2; omega, Only.kp hk ((Only.refl (w.heap.size + 1) W').set 0 _) (by omega)⟩)
  have HB := Lib.hid (rCheckT_any (hs.keep hk0))
  have HW := Lib.hid hW; have HK := Lib.hid hk0; have HB1 := Lib.hid b1; have HB2 := Lib.hid b2; have HS := Lib.hid hs; have HX := Lib.hid hx; have HSZ := Lib.hid hsz; have HN2 := Lib.hid hn2
  have c0 := b1.cell 0 rfl
  obtain ⟨E, hE⟩ : ∃ E, E = err ts := ⟨_, rfl⟩
  have HE := Lib.hid hE
  rw [← hE] at HB
  obtain ⟨ao, cap, rfl, hcap, -, -⟩ := hs.open3
  obtain ⟨m, hm⟩ : ∃ m, m = ts.length := ⟨_, rfl⟩
  rw [← hm] at HW HB1 HS HB c0 hcap ⊢
  have HM := Lib.hid hm
  have i1 : (m : Int) ≤ (cap : Int) := by omega
  have i2 : (m : Int) ≤ 1000000 := by omega
  obtain ⟨X, hX⟩ : ∃ X, X = st x := ⟨_, rfl⟩
  rw [← hX]
  have HXX := Lib.hid hX
  clear hs hk0 b1 b2 hW hE hcap hm hx hQ hsz hn2 hX
  by_cases he : E = 0
  · have q : ((E : Int) != 0) = false := by simp [he]
    have HE0 : Hid (err ts = 0) := Lib.hid (HE.out ▸ he)
    clear he
    by_cases hmem : x ∈ ts
    · have F : Hid (ptE x ts = 0 ∧ ptL x ts = ts ∧ ptN x ts = fnd x ts) := Lib.hid (by
        have h := ptE_in HE0.out hmem
        have h2 := ptL_ok h
        rw [add_in hmem] at h2
        exact ⟨h, h2⟩)
      have HFI : Hid (fndI x ts = ((fnd x ts : Nat) : Int)) := Lib.hid (fndI_ge hmem)
      obtain ⟨FN, hFN⟩ : ∃ FN, FN = fnd x ts := ⟨_, rfl⟩
      rw [← hFN] at F HFI
      have i3 : (0 : Int) ≤ (FN : Int) := by omega
      clear hmem hFN
      go_enter Try.func14, Try.ntmps14
      go_wp2_with fail
      rw [← HW.out]
      refine HB.out.mono ?_
      rintro e w1 ⟨rfl, hk1⟩
      have HK1 := Lib.hid hk1
      have c1 := (HB1.out.keep hk1).cell 0 rfl
      have HT1 := Lib.hid (HS.out.keep (HK.out.trans hk1))
      clear hk1 c0
      go_wp2_with (at_builtin; refine wpList_cln rfl (.const (.slice none 0 0)) (.tmp 17) rfl rfl rfl HT1.out (by rw [← HM.out]; omega) ?_)
      intro u w2 ho2
      have HO2 := Lib.hid ho2
      obtain ⟨⟨ua, ul, uc, rfl⟩, -⟩ := row_frc ho2.owns
      have HK3 : Hid (Kp w (w2.alloc (.cells #[.slice ua ul uc] 25))) := Lib.hid (((HK.out.trans HK1.out).trans ho2.kp).trans (kp_alloc _ _))
      have c2 := (HB1.out.keep (HK1.out.trans ho2.kp)).cell 0 rfl
      have c2' := (HB1.out.keep ((HK1.out.trans ho2.kp).trans (kp_alloc w2 (.cells #[.slice ua ul uc] 25)))).cell 0 rfl
      have HFD := Lib.hid (rfind_any (HS.out.keep HK3.out) (by have := HN2.out; omega) HX.out.1)
      rw [HFI.out] at HFD
      rw [← HXX.out] at HFD
      clear ho2 c1
      go_wp2_with fail
      refine HFD.out.mono ?_
      rintro e w4 ⟨rfl, hk4⟩
      have HK4 := Lib.hid hk4
      have c4 := ((Blk.new w2 25 #[.slice ua ul uc]).keep hk4).cell 0 rfl
      have hb4 := HB2.out.keep (((HK1.out.trans HO2.out.kp).trans (kp_alloc w2 (.cells #[.slice ua ul uc] 25))).trans hk4)
      have HB4 := Lib.hid hb4
      have f4 := hb4.free 0; have d4 := hb4.cell 0 rfl
      clear hk4 c2 c2' hb4
      go_wp2_with fail
      exact FIN.out w4 _ _ FN 0 _ HB4.out (HK3.out.trans HK4.out) rfl rfl rfl rfl (by rw [F.out.2.1]; exact (HO2.out.keep ((kp_alloc _ _).trans HK4.out)).tw) (fun b hb => by have := HO2.out.newer b hb; have := HK1.out.size; have := HSZ.out; omega) F.out.2.2.symm F.out.1.symm
    · have HFI : Hid (fndI x ts = -1) := Lib.hid (fndI_no hmem)
      by_cases hfull : m = 4096
      · have F : Hid (ptE x ts = 2 ∧ ptL x ts = [] ∧ ptN x ts = 0) := Lib.hid (by
          have h := ptE_full HE0.out hmem (HM.out ▸ hfull)
          exact ⟨h, ptL_no (by rw [h]; decide)⟩)
        have j0 : ((m : Int) == 4096) = true := beq_iff_eq.2 (by omega)
        clear hmem hfull
        go_enter Try.func14, Try.ntmps14
        go_wp2_with fail
        rw [← HW.out]
        refine HB.out.mono ?_
        rintro e w1 ⟨rfl, hk1⟩
        have HK1 := Lib.hid hk1
        have c1 := (HB1.out.keep hk1).cell 0 rfl
        have HT1 := Lib.hid (HS.out.keep (HK.out.trans hk1))
        clear hk1 c0
        go_wp2_with (at_builtin; refine wpList_cln rfl (.const (.slice none 0 0)) (.tmp 17) rfl rfl rfl HT1.out (by rw [← HM.out]; omega) ?_)
        intro u w2 ho2
        have HO2 := Lib.hid ho2
        obtain ⟨⟨ua, ul, uc, rfl⟩, -⟩ := row_frc ho2.owns
        have HK3 : Hid (Kp w (w2.alloc (.cells #[.slice ua ul uc] 25))) := Lib.hid (((HK.out.trans HK1.out).trans ho2.kp).trans (kp_alloc _ _))
        have c2 := (HB1.out.keep (HK1.out.trans ho2.kp)).cell 0 rfl
        have c2' := (HB1.out.keep ((HK1.out.trans ho2.kp).trans (kp_alloc w2 (.cells #[.slice ua ul uc] 25)))).cell 0 rfl
        have HFD := Lib.hid (rfind_any (HS.out.keep HK3.out) (by have := HN2.out; omega) HX.out.1)
        rw [HFI.out] at HFD
        rw [← HXX.out] at HFD
        clear ho2 c1
        go_wp2_with fail
        refine HFD.out.mono ?_
        rintro e w4 ⟨rfl, hk4⟩
        have HK4 := Lib.hid hk4
        have hb1' := HB1.out.keep (((HK1.out.trans HO2.out.kp).trans (kp_alloc w2 (.cells #[.slice ua ul uc] 25))).trans hk4)
        have hbo := (Blk.new w2 25 #[.slice ua ul uc]).keep hk4
        have c4 := hbo.cell 0 rfl
        have e4 := hb1'.cell 0 rfl
        have hb4 := HB2.out.keep (((HK1.out.trans HO2.out.kp).trans (kp_alloc w2 (.cells #[.slice ua ul uc] 25))).trans hk4)
        have HB4 := Lib.hid hb4; have HB1' := Lib.hid hb1'; have HBO := Lib.hid hbo
        have f4 := hb4.free 0; have d4 := hb4.cell 0 rfl
        clear hk4 c2 c2' hb4 hb1' hbo
        go_wp2_with fail
        exact FIN.out w4 _ _ 0 2 _ HB4.out (HK3.out.trans HK4.out) rfl rfl rfl rfl (by rw [F.out.2.1]; exact Tw.nil _) (fun b hb => by simp [Value.ownBlock] at hb) F.out.2.2.symm F.out.1.symm
      · have F : Hid (ptE x ts = 0 ∧ ptL x ts = ts ++ [x] ∧ ptN x ts = m) := Lib.hid (by
          have h := ptE_new HE0.out (x := x) (by rw [← HM.out]; exact hfull)
          have h2 := ptL_ok h
          rw [add_new hmem, fnd_snoc hmem, ← HM.out] at h2
          exact ⟨h, h2⟩)
        have j0 : ((m : Int) == 4096) = false := beq_eq_false_iff_ne.2 (by omega)
        clear hmem hfull
        go_enter Try.func14, Try.ntmps14
        go_wp2_with fail
        rw [← HW.out]
        refine HB.out.mono ?_
        rintro e w1 ⟨rfl, hk1⟩
        have HK1 := Lib.hid hk1
        have c1 := (HB1.out.keep hk1).cell 0 rfl
        have HT1 := Lib.hid (HS.out.keep (HK.out.trans hk1))
        clear hk1 c0
        go_wp2_with (at_builtin; refine wpList_cln rfl (.const (.slice none 0 0)) (.tmp 17) rfl rfl rfl HT1.out (by rw [← HM.out]; omega) ?_)
        intro u w2 ho2
        have HO2 := Lib.hid ho2
        obtain ⟨⟨ua, ul, uc, rfl⟩, -⟩ := row_frc ho2.owns
        have HK3 : Hid (Kp w (w2.alloc (.cells #[.slice ua ul uc] 25))) := Lib.hid (((HK.out.trans HK1.out).trans ho2.kp).trans (kp_alloc _ _))
        have c2 := (HB1.out.keep (HK1.out.trans ho2.kp)).cell 0 rfl
        have c2' := (HB1.out.keep ((HK1.out.trans ho2.kp).trans (kp_alloc w2 (.cells #[.slice ua ul uc] 25)))).cell 0 rfl
        have HFD := Lib.hid (rfind_any (HS.out.keep HK3.out) (by have := HN2.out; omega) HX.out.1)
        rw [HFI.out] at HFD
        rw [← HXX.out] at HFD
        clear ho2 c1
        go_wp2_with fail
        refine HFD.out.mono ?_
        rintro e w4 ⟨rfl, hk4⟩
        have HK4 := Lib.hid hk4
        have hb1' := HB1.out.keep (((HK1.out.trans HO2.out.kp).trans (kp_alloc w2 (.cells #[.slice ua ul uc] 25))).trans hk4)
        have hbo := (Blk.new w2 25 #[.slice ua ul uc]).keep hk4
        have c4 := hbo.cell 0 rfl
        have e4 := hb1'.cell 0 rfl
        have hb4 := HB2.out.keep (((HK1.out.trans HO2.out.kp).trans (kp_alloc w2 (.cells #[.slice ua ul uc] 25))).trans hk4)
        have HB4 := Lib.hid hb4; have HB1' := Lib.hid hb1'; have HBO := Lib.hid hbo
        have f4 := hb4.free 0; have d4 := hb4.cell 0 rfl
        clear hk4 c2 c2' hb4 hb1' hbo
        have HO4 := Lib.hid ((HO2.out.keep ((kp_alloc w2 (.cells #[.slice ua ul uc] 25)).trans HK4.out)).keep (kp_alloc w4 (.cells #[.string X] 9)))
        have HNB : Hid (Blk (w4.alloc (.cells #[.string X] 9)) w4.heap.size 9 #[.string (st x)]) := Lib.hid (by rw [← HXX.out]; exact Blk.new _ _ _)
        go_wp2_with (at_builtin; refine wpList_tx (w := w1) rfl (.tmp 33) (.tmp 35) rfl _ rfl HO4.out (by rw [← HM.out]; omega) x HX.out w4.heap.size rfl HNB.out ?_)
        intro v6 w6 ho6 hg6 ha6
        obtain ⟨⟨va, vl, vc, rfl⟩, hv6⟩ := row_frc ho6.owns
        have hrow := (row_frc HO2.out.owns).2
        have hne : ∀ b, b = w.heap.size ∨ b = w.heap.size + 1 ∨ b = w2.heap.size → some b ≠ (Value.slice ua ul uc).ownBlock := fun b hb e => by
          have h1 := hrow b e.symm
          have := HK1.out.size; have := HSZ.out
          omega
        have p1 := ((HB1'.out.keep (kp_alloc w4 (.cells #[.string X] 9))).by hg6 (hne _ (.inl rfl)))
        have p2 := ((HB4.out.keep (kp_alloc w4 (.cells #[.string X] 9))).by hg6 (hne _ (.inr (.inl rfl))))
        have p3 := ((HBO.out.keep (kp_alloc w4 (.cells #[.string X] 9))).by hg6 (hne _ (.inr (.inr rfl))))
        have g3 := p3.cell 0 rfl; have g3' := p3.free 0
        obtain ⟨W7, hW7⟩ : ∃ W7, W7 = w6.setCell ⟨w2.heap.size, 0, none⟩ (.slice va vl vc) := ⟨_, rfl⟩
        have hlt2 : w.heap.size + 2 ≤ w2.heap.size := by have := HO2.out.kp.size; have := HK1.out.size; have := HSZ.out; omega
        have r1 : Blk W7 w.heap.size 25 #[.slice ao m cap] := by rw [hW7]; exact p1.other ((Only.refl w2.heap.size w6).set 0 _) (by omega)
        have r2 : Blk W7 (w.heap.size + 1) 25 #[.slice none 0 0] := by rw [hW7]; exact p2.other ((Only.refl w2.heap.size w6).set 0 _) (by omega)
        have r3 : Blk W7 w2.heap.size 25 #[.slice va vl vc] := by rw [hW7]; exact p3.set 0 _
        have hv6' : ∀ b, (Value.slice va vl vc).ownBlock = some b → b ≠ w2.heap.size := fun b hb e => by
          subst e
          rcases ha6 with h | h
          · exact hne _ (.inr (.inr rfl)) (h ▸ hb).symm
          · rw [h] at hb; injection hb with hb
            have := ((kp_alloc w2 (.cells #[.slice ua ul uc] 25)).trans HK4.out).size
            have := (kp_alloc w4 (.cells #[.string X] 9)).size
            have hh : w2.heap.size < w4.heap.size := HBO.out.lt
            omega
        have HT7 : Hid (Tw W7 (.slice va vl vc) (ts ++ [x])) := Lib.hid (by rw [hW7]; exact ho6.tw.setc hv6')
        have HK7 : Hid (Kp w W7) := Lib.hid (by
          rw [hW7]
          exact Only.kp ((HK.out.trans HK1.out).trans ho6.kp) ((Only.refl w2.heap.size w6).set 0 _) (by omega))
        have HV6 : Hid (∀ b, (Value.slice va vl vc).ownBlock = some b → w.heap.size + 2 ≤ b) := Lib.hid (fun b hb => by have := (hv6 b hb).1; have := HK1.out.size; have := HSZ.out; omega)
        have HW7 := Lib.hid hW7; have HR2 := Lib.hid r2
        have k1 := r1.cell 0 rfl; have k2 := r2.cell 0 rfl; have k3 := r3.cell 0 rfl; have k2' := r2.free 0
        clear ho6 hg6 ha6 hv6 hrow hne p1 p2 p3 hW7 r1 r2 r3 hv6' c4 e4 f4 d4
        go_wp2_with fail
        rw [← HW7.out]
        go_region
        go_wp2_with fail
        exact FIN.out W7.drew _ _ m 0 _ HR2.out (HK7.out.trans (kp_drew _)) rfl rfl rfl rfl (by rw [F.out.2.1]; exact HT7.out.drew) HV6.out F.out.2.2.symm F.out.1.symm
  · have q : ((E : Int) != 0) = true := by simp; omega
    have F : Hid (ptE x ts = E ∧ ptL x ts = [] ∧ ptN x ts = 0) := Lib.hid (by
      have h := ptE_bad (x := x) (HE.out ▸ he)
      exact ⟨h.trans HE.out.symm, ptL_no (by rw [h, ← HE.out]; exact he)⟩)
    clear he
    go_enter Try.func14, Try.ntmps14
    go_wp2_with fail
    rw [← HW.out]
    refine HB.out.mono ?_
    rintro e w1 ⟨rfl, hk1⟩
    have HK1 := Lib.hid hk1
    have hb4 := HB2.out.keep hk1
    have HB4 := Lib.hid hb4
    have f4 := hb4.free 0; have d4 := hb4.cell 0 rfl
    clear hk1 c0 hb4
    go_wp2_with fail
    exact FIN.out w1 _ _ 0 E _ HB4.out (HK.out.trans HK1.out) rfl rfl rfl rfl (by rw [F.out.2.1]; exact Tw.nil _) (fun b hb => by simp [Value.ownBlock] at hb) F.out.2.2.symm F.out.1.symm
end By
end Go.Proofs.Ytlfoikjbbbhbdaa

/- The reference's Merge. Condition: at most a million texts in each store. -/
namespace Go.Proofs.Ytlfoikjbbbhbdaa
namespace By
open Go.RowKit WireN CtN
set_option linter.unusedVariables false
set_option linter.unusedSimpArgs false

theorem Jw.setc {w : World} {v : Value} {ts : List Int} {g i : Nat} {u : Value} (h : Jw w v ts) (hne : ∀ b, v.ownBlock = some b → b ≠ g) : Jw (w.setCell ⟨g, i, none⟩ u) v ts := by
  refine h.by (row := some g) (Only.gr ((Only.refl g w).set i u)) (fun b hb e => ?_)
  injection e with e
  exact hne b hb e.symm
/-- A store and numbers that are being made: the store's cell o holds a row of texts u, and nv is a row of numbers. -/
structure MgI (w wr : World) (o : Nat) (u nv : Value) (ts : List Tx) (ns : List Int) : Prop where
  blk : Blk wr o 25 #[u]
  ow : OwT w wr u ts
  oj : OwJ w wr nv ns
  ho : w.heap.size ≤ o
  d1 : ∀ b, u.ownBlock = some b → b ≠ o
  d2 : ∀ b, nv.ownBlock = some b → b ≠ o
  d3 : ∀ b, u.ownBlock = some b → nv.ownBlock ≠ some b
theorem MgI.keep {w wr w' : World} {o : Nat} {u nv : Value} {ts : List Tx} {ns : List Int} (h : MgI w wr o u nv ts ns) (hk : Kp wr w') : MgI w w' o u nv ts ns :=
  ⟨h.blk.keep hk, h.ow.keep hk, h.oj.keep hk, h.ho, h.d1, h.d2, h.d3⟩
theorem MgI.kp {w wr : World} {o : Nat} {u nv : Value} {ts : List Tx} {ns : List Int} (h : MgI w wr o u nv ts ns) : Kp w wr := h.ow.kp
/-- A text was appended and put into the store's cell. -/
theorem MgI.text {w wx w6 : World} {o : Nat} {u nv v6 : Value} {ts us : List Tx} {ns : List Int} (h : MgI w wx o u nv ts ns) (ho6 : OwT w w6 v6 us) (hg6 : wx.grownBy w6 u.ownBlock) (ha6 : v6.ownBlock = u.ownBlock ∨ v6.ownBlock = some wx.heap.size) :
    Blk w6 o 25 #[u] ∧ MgI w (w6.setCell ⟨o, 0, none⟩ v6) o v6 nv us ns := by
  have hne : some o ≠ u.ownBlock := fun e => h.d1 o e.symm rfl
  have hb6 := h.blk.by hg6 hne
  have hu : ∀ r, u.ownBlock = some r → w.heap.size ≤ r := h.ow.newer
  have hoj : OwJ w w6 nv ns := h.oj.by hg6 hu (fun b hb e => h.d3 b e hb)
  have hd6 : ∀ b, v6.ownBlock = some b → b ≠ o := fun b hb e => by
    subst e
    rcases ha6 with hh | hh
    · exact hne (hh ▸ hb).symm
    · rw [hh] at hb; injection hb with hb
      have := h.blk.lt
      omega
  have hgo : w6.grownBy (w6.setCell ⟨o, 0, none⟩ v6) (some o) := Only.gr ((Only.refl o w6).set 0 v6)
  refine ⟨hb6, hb6.set 0 v6, ho6.by hgo (fun r hr => by injection hr with hr; have := h.ho; omega) (fun b hb e => ?_), hoj.by hgo (fun r hr => by injection hr with hr; have := h.ho; omega) (fun b hb e => ?_), h.ho, hd6, h.d2, fun b hb e => ?_⟩
  · injection e with e; exact hd6 b hb e.symm
  · injection e with e; exact h.d2 b hb e.symm
  · rcases ha6 with hh | hh
    · exact h.d3 b (hh ▸ hb) e
    · rw [hh] at hb; injection hb with hb
      have h1 := ((row_frc h.oj.owns).2 b e).2
      omega
/-- A number was appended. -/
theorem MgI.num {w wx w8 : World} {o : Nat} {u nv v8 : Value} {ts : List Tx} {ns ms : List Int} (h : MgI w wx o u nv ts ns) (ho8 : OwJ w w8 v8 ms) (hg8 : wx.grownBy w8 nv.ownBlock) (ha8 : v8.ownBlock = nv.ownBlock ∨ v8.ownBlock = some wx.heap.size) : MgI w w8 o u v8 ts ms := by
  have hne : some o ≠ nv.ownBlock := fun e => h.d2 o e.symm rfl
  have hb8 := h.blk.by hg8 hne
  have hu : ∀ r, nv.ownBlock = some r → w.heap.size ≤ r := h.oj.newer
  refine ⟨hb8, h.ow.by hg8 hu (fun b hb e => h.d3 b hb e), ho8, h.ho, h.d1, fun b hb e => ?_, fun b hb e => ?_⟩
  · subst e
    rcases ha8 with hh | hh
    · exact hne (hh ▸ hb).symm
    · rw [hh] at hb; injection hb with hb
      have := h.blk.lt
      omega
  · rcases ha8 with hh | hh
    · exact h.d3 b hb (hh ▸ e)
    · rw [hh] at e; injection e with e
      have h1 := ((row_frc h.ow.owns).2 b hb).2
      omega
/-- What Merge answers. -/
def mgE (a b : List Tx) : Nat := if err a ≠ 0 then err a else if err b ≠ 0 then err b else if 4096 < (mrg a b).1.length then 2 else 0
def mgL (a b : List Tx) : List Tx := if mgE a b = 0 then (mrg a b).1 else []
def mgN (a b : List Tx) : List Int := if mgE a b = 0 then (mrg a b).2.map (fun (k : Nat) => (k : Int)) else []
theorem mgL_no {a b : List Tx} (h : mgE a b ≠ 0) : mgL a b = [] ∧ mgN a b = [] := ⟨if_neg h, if_neg h⟩
theorem mgL_ok {a b : List Tx} (h : mgE a b = 0) : mgL a b = (mrg a b).1 ∧ mgN a b = (mrg a b).2.map (fun (k : Nat) => (k : Int)) := ⟨if_pos h, if_pos h⟩
/-- What Merge leaves. -/
def MergeR (a b : List Tx) (w : World) (e : Ending) (w' : World) : Prop :=
  ∃ u nv, e = .returned (.tuple #[.agg #[u], nv, .int .i64 (mgE a b : Nat)]) ∧ Tw w' u (mgL a b) ∧ Jw w' nv (mgN a b) ∧ (∀ c, u.ownBlock = some c → w.heap.size ≤ c) ∧ (∀ c, nv.ownBlock = some c → w.heap.size ≤ c) ∧ Kp w w'
end By
end Go.Proofs.Ytlfoikjbbbhbdaa
