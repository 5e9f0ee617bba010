/- Check of a source, fifteenth part: no identity of a row occurs twice. Conditions: kinds are 1 to 3, names have at most a million bytes, the row at most a million items. -/
import Derived.Test.YtmflgfojicaecaaGreatDoorMCe
import Derived.DeepKeys3
import Derived.Maps.AppendAt
import Derived.Deep.Upon
import Derived.Test.YtmflgfojicaecaaGreatDoorMVa
namespace SrcN
/-- Whether no item occurs twice, nor among those seen before. -/
def disI (seen : List (Int × List Nat)) : List (Int × List Nat) → Bool
  | [] => true
  | x :: r => if seen.contains x then false else disI (seen ++ [x]) r
theorem disI_step {seen l : List (Int × List Nat)} {i : Nat} {x : Int × List Nat} (h : l[i]? = some x) : disI seen (l.drop i) = if seen.contains x then false else disI (seen ++ [x]) (l.drop (i + 1)) := by
  obtain ⟨hi, rfl⟩ := List.getElem?_eq_some_iff.1 h
  rw [List.drop_eq_getElem_cons hi]
  rfl
end SrcN
namespace Go.Proofs.YtmflgfojicaecaaGreatDoor
namespace By
open Go.RowKit WireN LexN SrcN
set_option linter.unusedVariables false
set_option linter.unusedSimpArgs false

def OkI (x : Int × List Nat) : Prop := (1 ≤ x.1 ∧ x.1 ≤ 3) ∧ Lt x.2 ∧ x.2.length ≤ 1000000
def valI (x : Int × List Nat) : Value := .agg #[.int .i64 x.1, .string (st x.2)]
set_option maxRecDepth 100000 in
theorem lawI : Go.Maps.Keyed Tryz.prog 98 := Go.Maps.Keyed.of_law (deep_law (m := 5) (by omega) (by kernel_rfl) (by kernel_rfl) (by kernel_rfl))
set_option maxRecDepth 100000 in
theorem keyI {x : Int × List Nat} (h : OkI x) : ∃ l, keyOf Tryz.prog 98 (valI x) = some l := by
  have hkt : Tryz.prog.keyType 98 = true := by kernel_rfl
  have hu := Tryz.underlying98
  have hc : Tryz.prog.cellsOf 98 = 2 := by kernel_rfl
  have hci : Tryz.prog.cellsOf 3 = 1 := by kernel_rfl
  have hcs : Tryz.prog.cellsOf 9 = 1 := by kernel_rfl
  have hui := Tryz.underlying3
  have hus := Tryz.underlying9
  obtain ⟨m, hm⟩ : ∃ m, Tryz.prog.types.size = m + 2 := ⟨Tryz.prog.types.size - 2, by kernel_rfl⟩
  have hw : (Lit.int .i64 x.1).wf = true := by
    have h1 := h.1.1; have h2 := h.1.2
    have e1 : IntKind.i64.min = -9223372036854775808 := by decide
    have e2 : IntKind.i64.max = 9223372036854775807 := by decide
    simp [Lit.wf, e1, e2]
    omega
  have hz : (st x.2).size ≤ maxLen := by rw [st_size]; have := h.2.2; unfold maxLen; omega
  unfold keyOf valI
  simp only [hu]
  rw [if_pos (by simp [hkt, Value.formed, hu, hc]), hm]
  unfold Program.keyLits
  simp only [hu, Value.cells]
  rw [if_pos (by rw [hc]; exact ⟨rfl, by simp⟩)]
  simp [Program.keyLits, hui, hus, hci, hcs, hw, hz]
theorem valI_inj {x y : Int × List Nat} (hx : Lt x.2) (hy : Lt y.2) (h : valI x = valI y) : x = y := by
  unfold valI at h
  simp only [Value.agg.injEq] at h
  have h1 : x.1 = y.1 := by
    have := congrArg (fun a => a[0]?) h
    simpa using this
  have h2 : st x.2 = st y.2 := by
    have := congrArg (fun a => a[1]?) h
    simpa using this
  have h3 : x.2 = y.2 := by rw [← bs_st hx, ← bs_st hy, h2]
  exact Prod.ext h1 h3
/-- Block b is a map of at most n entries that tells which identities were seen. -/
structure SI (w : World) (b n : Nat) (seen : List (Int × List Nat)) : Prop where
  ex : ∃ D : DataW Unit, w.ownsMap Tryz.prog 98 (plainElem Tryz.prog 4) b n D ∧ Go.Maps.IsMap D ∧ ∀ x, OkI x → ∀ l, keyOf Tryz.prog 98 (valI x) = some l → D.atKey l (.lit (.bool false)) = .lit (.bool (seen.contains x))
theorem SI.made (w : World) : SI (w.alloc (.map #[] 0)) w.heap.size 0 [] :=
  ⟨.map [], World.ownsMap_made w _ _ _, ⟨[], rfl⟩, fun x _ l _ => rfl⟩
theorem SI.alloc {w : World} {b n : Nat} {seen : List (Int × List Nat)} (h : SI w b n seen) (o : Obj) : SI (w.alloc o) b n seen := by
  obtain ⟨D, h1, h2, h3⟩ := h
  exact ⟨D, h1.alloc o, h2, h3⟩
theorem SI.lt {w : World} {b n : Nat} {seen : List (Int × List Nat)} (h : SI w b n seen) : b < w.heap.size := by
  obtain ⟨D, h1, -, -⟩ := h; exact h1.lt
set_option maxRecDepth 100000 in
theorem SI.get {w : World} {b n : Nat} {seen : List (Int × List Nat)} (h : SI w b n seen) {x : Int × List Nat} (hx : OkI x) : (Instr.lookup 127 (.map (some b)) (valI x) false).run Tryz.prog w = .ok (.bool (seen.contains x)) w := by
  obtain ⟨D, h1, h2, h3⟩ := h
  obtain ⟨l, hl⟩ := keyI hx
  obtain ⟨v, ps, hr, hv⟩ := h1.lookup lawI Tryz.underlying127 (zeroB w) (plainElem_bool Tryz.underlying4 false) hl
  obtain ⟨y, rfl, hy⟩ := plainB_inv hv
  rw [h3 x hx l hl] at hy
  simp only [Prod.mk.injEq] at hy
  have h5 := hy.1
  injection h5 with h5
  injection h5 with h5
  rw [hr, h5]
set_option maxRecDepth 100000 in
theorem SI.put {w : World} {b n : Nat} {seen : List (Int × List Nat)} (h : SI w b n seen) (hn : n < 10000000) {k : Int × List Nat} (hk : OkI k) :
    ∃ w', (Instr.mapUpdate 127 (.map (some b)) (valI k) (.bool true)).run Tryz.prog w = .ok () w' ∧ SI w' b (n + 1) (seen ++ [k]) ∧ w.grownBy w' (some b) := by
  obtain ⟨D, h1, h2, h3⟩ := h
  obtain ⟨l, hl⟩ := keyI hk
  obtain ⟨w', hr, ho, hg⟩ := h1.update lawI Tryz.underlying127 (by unfold maxLen; omega) hl (plainElem_bool (H := Unit) Tryz.underlying4 true)
  refine ⟨w', hr, ⟨_, ho, ?_, fun c hc lc hlc => ?_⟩, hg⟩
  · obtain ⟨es, rfl⟩ := h2
    exact ⟨_, rfl⟩
  · by_cases hck : c = k
    · subst hck
      rw [hl] at hlc
      obtain rfl := Option.some.inj hlc
      rw [Go.Maps.atKey_put_same h2 (lawI.key hl)]
      simp
    · have hne : lc ≠ l := fun e => by
        subst e
        exact hck (valI_inj hc.2.1 hk.2.1 (lawI.inj hlc hl))
      rw [Go.Maps.atKey_put_other hne, h3 c hc lc hlc]
      simp [hck]
theorem wpList_updI {w : World} {ops : Array Oper} {rest : List Oper} {o : Oper} {a : Act} {Q : Exit → Act → World → Prop} (hg : o.guard = none) (m x v : Operand) (hop : o.op = Op.mapUpdate 127 m x v)
    {b n : Nat} {seen : List (Int × List Nat)} (hm : a.eval m = .map (some b)) (h : SI w b n seen) (hn : n < 10000000) (k : Int × List Nat) (hk : OkI k) (hx : a.eval x = valI k) (hv : a.eval v = .bool true)
    (hK : ∀ w', SI w' b (n + 1) (seen ++ [k]) → w.grownBy w' (some b) → wpList Tryz.prog ops Q rest (a.put o.dst undef) w') : wpList Tryz.prog ops Q (o :: rest) a w := by
  refine wpList_plain hg fun K' hK' => ?_
  obtain ⟨w', hrun, r1, r2⟩ := h.put hn hk
  unfold Oper.wp
  simp [execOp, hop, hm, hx, hv, hrun, Result.andThen]
  exact hK' _ _ (hK w' r1 r2)
/-- A slice that reads as identities. -/
structure Ids (W : World) (v : Value) (xs : List (Int × List Nat)) : Prop where
  ex : ∃ ao c, v = .slice ao xs.length c ∧ xs.length ≤ 1000000 ∧ (xs = [] ∨ ∃ g o, ao = some ⟨g, o, none⟩ ∧ ∀ j x, xs[j]? = some x → W.cell? ⟨g, o + j * 2, none⟩ = some (.int .i64 x.1) ∧ W.cell? ⟨g, o + j * 2 + 1, none⟩ = some (.string (st x.2)))
  ok : ∀ x ∈ xs, OkI x
set_option maxRecDepth 100000 in
set_option maxHeartbeats 4000000 in
theorem distinctI_any {v : Value} {l : List (Int × List Nat)} {w : World} (hD : Ids w v l) :
    Calls Tryz.prog 60 #[v] w fun e w' => e = .returned (.bool (disI [] l)) ∧ Kp w w' := by
  obtain ⟨⟨ao, cap, rfl, hl64, hcell⟩, hok⟩ := hD
  obtain ⟨len, hlen⟩ : ∃ len, len = l.length := ⟨_, rfl⟩
  rw [← hlen] at hl64 ⊢
  have HC := Lib.hid hcell; have HO := Lib.hid hok; have HL := Lib.hid hlen
  clear hcell hok hlen
  have HEND : Hid (∀ (i : Nat) (seen : List (Int × List Nat)), disI [] l = disI seen (l.drop i) → len ≤ i → disI [] l = true) := Lib.hid (fun i seen h hi => by
    rw [h, List.drop_eq_nil_of_le (by have := HL.out; omega)]; rfl)
  have HST : Hid (∀ (i : Nat) (seen : List (Int × List Nat)) (x : Int × List Nat), disI [] l = disI seen (l.drop i) → l[i]? = some x → disI [] l = if seen.contains x then false else disI (seen ++ [x]) (l.drop (i + 1))) := Lib.hid (fun i seen x h hx => by rw [h]; exact disI_step hx)
  obtain ⟨E, hE⟩ : ∃ E, E = disI [] l := ⟨_, rfl⟩
  have H0 : Hid (Hid (E = disI [] (l.drop 0))) := Lib.hid (Lib.hid hE)
  rw [← hE] at HEND HST ⊢
  clear hE
  have HM0 := Lib.hid (SI.made w)
  have HK0 := Lib.hid (kp_alloc w (.map #[] 0))
  have hmm := @run_makeMap Tryz.prog
  go_enter Tryz.func60, Tryz.ntmps60
  go_wp2_with fail
  clear hmm
  go_loopw [9] (fun iv wy => ∃ (i : Nat) (seen : List (Int × List Nat)), i ≤ len ∧ iv = .int .i64 i ∧ Kp w wy ∧ Hid (SI wy w.heap.size i seen) ∧ Hid (E = disI seen (l.drop i))) (fun iv _ => len - (intOf iv).toNat)
  case atStart => exact ⟨0, [], Nat.zero_le _, rfl, HK0.out, HM0, H0.out⟩
  case round =>
    obtain ⟨i, seen, hi, rfl, hkp, HSM, HEQ⟩ := hrel
    have HKP := Lib.hid hkp
    clear hkp
    rename World => wy
    by_cases hil : i < len
    · obtain ⟨x, hx⟩ : ∃ x, l[i]? = some x := ⟨_, List.getElem?_eq_getElem (by have := HL.out; omega)⟩
      have hxo := HO.out x (List.mem_of_getElem? hx)
      rcases HC.out with h0 | ⟨g, o, rfl, hc⟩
      · rw [h0] at hx; cases hx
      have k0 := cell_kept (hc i x hx).1 HKP.out
      have k1 := cell_kept (hc i x hx).2 HKP.out
      obtain ⟨W1, hW1⟩ : ∃ W1, W1 = wy.alloc (Obj.cells #[.int .i64 x.1, .string (st x.2)] 98) := ⟨_, rfl⟩
      have bb : Blk W1 wy.heap.size 98 #[.int .i64 x.1, .string (st x.2)] := by rw [hW1]; exact Blk.new _ _ _
      have HSM1 : Hid (SI W1 w.heap.size i seen) := Lib.hid (by rw [hW1]; exact HSM.out.alloc _)
      have KP1 : Hid (Kp w W1) := Lib.hid (by rw [hW1]; exact Kp.trans HKP.out (kp_alloc _ _))
      have q0 := HSM1.out.get hxo
      unfold valI at q0
      have HS1 := Lib.hid (HST.out i seen x HEQ.out hx)
      have HXO := Lib.hid hxo
      clear hc hx hxo
      have c0 := bb.cell 0 rfl; have c1 := bb.cell 1 rfl
      obtain ⟨S, hS⟩ : ∃ S, S = st x.2 := ⟨_, rfl⟩
      obtain ⟨kk, hkk⟩ : ∃ S, S = x.1 := ⟨_, rfl⟩
      obtain ⟨c, hc⟩ : ∃ c, c = seen.contains x := ⟨_, rfl⟩
      have HVX : Hid (valI x = .agg #[.int .i64 kk, .string S]) := Lib.hid (by rw [hkk, hS]; rfl)
      rw [← hS, ← hkk, ← hc] at q0
      rw [← hS] at k1 c1
      rw [← hkk] at k0 c0
      rw [← hS, ← hkk] at hW1
      rw [← hc] at HS1
      have HW1 := Lib.hid hW1
      rw [hW1] at q0 c0 c1
      clear hS hkk hc bb hW1
      cases c with
      | true =>
        have FIN : Hid (E = false) := Lib.hid (by rw [HS1.out]; rfl)
        go_wp2_with fail
        go_ret
        rw [← HW1.out]
        exact ⟨by rw [FIN.out]; simp, KP1.out⟩
      | false =>
        have HNEW : Hid (Hid (E = disI (seen ++ [x]) (l.drop (i + 1)))) := Lib.hid (Lib.hid (by rw [HS1.out]; rfl))
        go_wp2_with (at_mapUpdate; rw [← HW1.out]; refine wpList_updI rfl (.tmp 16) (.tmp 17) (.const (.bool true)) rfl rfl HSM1.out (by omega) x HXO.out (by rw [HVX.out]; rfl) rfl ?_)
        intro w7 km7 g7
        have H7 := Lib.hid km7
        have K7 : Hid (Kp w w7) := Lib.hid (grown_kp KP1.out g7 (Nat.le_refl _))
        clear km7 g7
        go_wp2_with fail
        go_roundw
        case rel => exact ⟨i + 1, _, by omega, vint (by omega), K7.out, H7, HNEW.out⟩
        case measure => simp [intOf]; omega
    · have FIN : Hid (E = true) := Lib.hid (HEND.out i seen HEQ.out (by omega))
      go_wp2_with fail
      go_ret
      exact ⟨by rw [FIN.out]; simp, HKP.out⟩
/-- A row of identities of the call's own. -/
def idcell (x : Int × List Nat) : List Value := [.int .i64 x.1, .string (st x.2)]
def idcells (xs : List (Int × List Nat)) : List Value := xs.flatMap idcell
theorem idcells_at : ∀ (xs : List (Int × List Nat)) (j : Nat) (x : Int × List Nat), xs[j]? = some x → (idcells xs)[j * 2]? = some (.int .i64 x.1) ∧ (idcells xs)[j * 2 + 1]? = some (.string (st x.2))
  | [], j, x, h => by simp at h
  | y :: r, 0, x, h => by
    simp at h
    subst h
    exact ⟨rfl, rfl⟩
  | y :: r, j + 1, x, h => by
    have := idcells_at r j x (by simpa using h)
    rw [show (j + 1) * 2 = j * 2 + 1 + 1 by omega]
    simpa [idcells, idcell] using this
structure OwI (w wr : World) (v : Value) (xs : List (Int × List Nat)) : Prop where
  owns : wr.ownsRow w.heap.size 98 2 v xs.length (idcells xs)
  kp : Kp w wr
theorem OwI.keep {w wr w1 : World} {v : Value} {xs : List (Int × List Nat)} (h : OwI w wr v xs) (hk : Kp wr w1) : OwI w w1 v xs := by
  refine ⟨?_, Kp.trans h.kp hk⟩
  refine ⟨h.owns.1, ?_⟩
  rcases h.owns.2 with hn | ⟨g, cap, cur, he, hb, hg, r⟩
  · exact .inl hn
  · exact .inr ⟨g, cap, cur, he, hb, by rw [hk.block g (lt_of_block hg)]; exact hg, r⟩
theorem OwI.ids {w wr : World} {v : Value} {xs : List (Int × List Nat)} (h : OwI w wr v xs) (hl : xs.length ≤ 1000000) (ho : ∀ x ∈ xs, OkI x) : Ids wr v xs := by
  refine ⟨?_, ho⟩
  rcases h.owns.2 with ⟨rfl, h0⟩ | ⟨g, cap, cur, rfl, hb, hg, hnc, hcm, hsz, htake⟩
  · exact ⟨none, 0, by rw [h0], hl, .inl (List.length_eq_zero_iff.1 h0)⟩
  · refine ⟨some ⟨g, 0, none⟩, cap, rfl, hl, .inr ⟨g, 0, rfl, fun j x hx => ?_⟩⟩
    have hj : j < xs.length := (List.getElem?_eq_some_iff.1 hx).1
    obtain ⟨h1, h2⟩ := idcells_at xs j x hx
    constructor
    · rw [Nat.zero_add, cell_of_row wr g (j * 2) cur _ (0, 0) hg]
      rw [← htake, List.getElem?_take, if_pos (by omega)] at h1
      simpa using h1
    · rw [Nat.zero_add, cell_of_row wr g (j * 2 + 1) cur _ (0, 0) hg]
      rw [← htake, List.getElem?_take, if_pos (by omega)] at h2
      simpa using h2
theorem infoId : (Tryz.prog.info? 98).map (fun i => (i.zero, i.size, i.bytes)) = some (some (.agg #[.int .i64 0, .string ⟨#[]⟩]), 2, 24) := by kernel_rfl
set_option maxRecDepth 100000 in
/-- append of an identity to a row of one's own. -/
theorem wpList_idt {w wx : World} {ops : Array Oper} {rest : List Oper} {o : Oper} {a : Act} {Q : Exit → Act → World → Prop} (hgd : o.guard = none) (s x : Operand)
    (ho : o.op = .call { callee := .builtin .append, args := #[s, x], argTypes := #[95, 95] })
    (v : Value) {xs : List (Int × List Nat)} (hs : a.eval s = v) (hown : OwI w wx v xs) (hsm : xs.length ≤ 1000000) (f : Int × List Nat) (g : Nat) (hx : a.eval x = .slice (some ⟨g, 0, none⟩) 1 1)
    (hc : Blk wx g 98 #[.int .i64 f.1, .string (st f.2)])
    (h : ∀ v' w', OwI w w' v' (xs ++ [f]) → wpList Tryz.prog ops Q rest (a.put o.dst v') w') : wpList Tryz.prog ops Q (o :: rest) a wx := by
  obtain ⟨i, hi, hz, hsize, hby⟩ := info_parts infoId
  refine wpList_append_own_at (P := Tryz.prog) wx hgd s x _ ho w.heap.size _ i _ 2 24 Tryz.underlying95 hi hz hsize hby rfl (by omega) v xs.length (idcells xs) hs hown.owns ⟨g, 0, none⟩ 1 1 [.int .i64 f.1, .string (st f.2)] hx rfl ?_ ?_ (by unfold maxLen; omega) (by omega) hown.kp.size ?_
  · intro j u hu
    rw [Addr.add_lit]
    refine hc.cell (0 + j) ?_
    rw [Nat.zero_add]
    simpa using hu
  · intro u hu
    simp at hu
    rcases hu with rfl | rfl <;> rfl
  · intro v' w' h1 h2 h3 h4
    refine h v' w' ⟨?_, Below.grown hown.kp h2 hown.kp.size (fun k hk => (hown.owns.lt k hk).1)⟩
    have e : idcells (xs ++ [f]) = idcells xs ++ [.int .i64 f.1, .string (st f.2)] := by simp [idcells, idcell]
    rw [List.length_append, e]; exact h1
end By
end Go.Proofs.YtmflgfojicaecaaGreatDoor

/- Check of a source, sixteenth part: isDistinct. Conditions: kinds are 1 to 3, names have at most a million bytes, rows at most a million items. -/
namespace SrcN
def idt (d : XD) : Int × List Nat := (d.k, d.nm)
def dstB (f : XS) : Bool := f.dc.all (fun d => dis [] d.ps) && (dis [] (f.pk :: f.im) && disI [] (f.dc.map idt))
end SrcN
namespace Go.Proofs.YtmflgfojicaecaaGreatDoor
namespace By
open Go.RowKit WireN LexN SrcN
set_option linter.unusedVariables false
set_option linter.unusedSimpArgs false

theorem infoStr : (Tryz.prog.info? 9).map (fun i => (i.zero, i.size, i.bytes)) = some (some (.string ⟨#[]⟩), 1, 16) := by kernel_rfl
theorem owns_zero {w : World} {B : Nat} {e : TypeId} {s : Nat} {v : Value} {n : Nat} {cs : List Value} (h : w.ownsRow B e s v n cs) : w.ownsRow 0 e s v n cs := by
  refine ⟨h.1, ?_⟩
  rcases h.2 with hn | ⟨g, cap, cur, he, hb, hg, r⟩
  · exact .inl hn
  · exact .inr ⟨g, cap, cur, he, Nat.zero_le _, hg, r⟩
/-- append(literal of one string, a row of strings) -/
theorem wpList_lit {w wx : World} {ops : Array Oper} {rest : List Oper} {o : Oper} {a : Act} {Q : Exit → Act → World → Prop} (hgd : o.guard = none) (s x : Operand)
    (ho : o.op = .call { callee := .builtin .append, args := #[s, x], argTypes := #[26, 26] })
    {g : Nat} {pk : List Nat} (hs : a.eval s = .slice (some ⟨g, 0, none⟩) 1 1) (hc : Blk wx g 9 #[.string (st pk)]) (hg : w.heap.size ≤ g) (hkp : Kp w wx) {iv : Value} {im : List (List Nat)} (hx : a.eval x = iv) (hi : Sts wx iv im) (hpk : Lt pk ∧ pk.length ≤ 1000000) (hlen : im.length < 1000000)
    (h : ∀ ao c w', Sts w' (.slice ao (im.length + 1) c) (pk :: im) → Kp w w' → wpList Tryz.prog ops Q rest (a.put o.dst (.slice ao (im.length + 1) c)) w') : wpList Tryz.prog ops Q (o :: rest) a wx := by
  obtain ⟨i0, hi0, hz0, hz1, hz2⟩ := info_parts infoStr
  have hown : wx.ownsRow w.heap.size 9 1 (.slice (some ⟨g, 0, none⟩) 1 1) 1 [.string (st pk)] :=
    ⟨rfl, .inr ⟨g, 1, #[.string (st pk)], rfl, hg, hc, Nat.le_refl _, by unfold maxLen; omega, rfl, rfl⟩⟩
  have hok : ∀ n ∈ pk :: im, Lt n ∧ n.length ≤ 1000000 := fun n hn => by
    rcases List.mem_cons.1 hn with rfl | hn
    · exact hpk
    · exact hi.ok n hn
  obtain ⟨⟨ao, c, e1, e2, e3⟩, -⟩ := hi
  rcases Nat.eq_zero_or_pos im.length with h0 | h0
  · have him : im = [] := List.eq_nil_of_length_eq_zero h0
    subst him
    refine wpList_plain hgd fun K hK' => ?_
    have hsrc : Src Tryz.prog i0.size 26 (.slice ao 0 c) 0 [] wx := by
      cases ao with
      | none => exact Src.ofNil wx Tryz.underlying26 c
      | some ad => exact Src.ofSlice wx Tryz.underlying26 ad 0 c [] (by simp) (by simp) (by simp)
    have hrun := run_append_nothing (P := Tryz.prog) wx 26 26 o.type 9 i0 Tryz.underlying26 hi0 (some ⟨g, 0, none⟩) 1 1 (Nat.le_refl _) (.slice ao 0 c) hsrc
    have hx' : a.eval x = .slice ao 0 c := by rw [hx, e1]; rfl
    unfold Oper.wp
    simp [execOp, ho, resolve, invoke, builtin, hs, hx', hrun, Result.andThen]
    refine hK' _ _ (h (some ⟨g, 0, none⟩) 1 wx ⟨⟨_, _, rfl, by simp, .inr ⟨g, 0, rfl, hc.lt, fun j y hy => ?_⟩⟩, hok⟩ hkp)
    match j, hy with
    | 0, hy =>
      simp at hy
      subst hy
      exact hc.cell 0 rfl
    | j + 1, hy => simp at hy
  · rcases e3 with rfl | ⟨g2, o2, rfl, hg2, hcell⟩
    · simp at h0
    refine wpList_append_own_at (P := Tryz.prog) wx hgd s x _ ho w.heap.size _ i0 _ 1 16 Tryz.underlying26 hi0 hz0 hz1 hz2 rfl (by omega) _ 1 [.string (st pk)] hs hown ⟨g2, o2, none⟩ im.length c (im.map fun n => Value.string (st n)) (by rw [hx, e1]) (by simp) ?_ ?_ (by unfold maxLen; omega) (by omega) hkp.size ?_
    · intro j u hu
      rw [List.getElem?_map] at hu
      obtain ⟨n, hn, rfl⟩ := Option.map_eq_some_iff.1 hu
      rw [Addr.add_lit]
      exact hcell j n hn
    · intro u hu
      obtain ⟨n, -, rfl⟩ := List.mem_map.1 hu
      rfl
    · intro v' w' h1 h2 h3 h4
      obtain ⟨ao', c', rfl⟩ := row_open (owns_zero h1)
      have hS : Sts w' (.slice ao' (1 + im.length) c') (pk :: im) := sts_own (by
        have := owns_zero h1
        rw [List.length_cons, Nat.add_comm im.length 1]
        exact this) (by rw [List.length_cons]; omega) hok
      rw [Nat.add_comm 1 im.length] at hS ⊢
      exact h ao' c' w' hS (Below.grown hkp h2 hkp.size (fun k hk => by
        simp [Value.ownBlock] at hk
        omega))
set_option maxRecDepth 100000 in
set_option maxHeartbeats 8000000 in
theorem isDistinct_any {f : XS} {iv dv : Value} {w : World} (hS : SrcV w iv dv f) (hil9 : f.im.length < 1000000) (hok : ∀ d ∈ f.dc, 1 ≤ d.k ∧ d.k ≤ 3) :
    Calls Tryz.prog 27 #[.agg #[.string (st f.pk), iv, dv]] w fun e w' => e = .returned (.bool (dstB f)) ∧ Kp w w' := by
  have HS := Lib.hid hS; have HOK := Lib.hid hok; have HI9 := Lib.hid hil9
  obtain ⟨⟨ia, ic, rfl, -, -⟩, -⟩ := hS.im
  obtain ⟨⟨da, dcp, rfl, hdl6, -⟩, -⟩ := hS.dc
  obtain ⟨il, hil⟩ : ∃ x, x = f.im.length := ⟨_, rfl⟩
  obtain ⟨dl, hdl⟩ : ∃ x, x = f.dc.length := ⟨_, rfl⟩
  obtain ⟨S, hSS⟩ : ∃ x, x = st f.pk := ⟨_, rfl⟩
  obtain ⟨W0, hW0⟩ : ∃ W0, W0 = w.alloc (Obj.cells #[.string S, .slice ia il ic, .slice da dl dcp] 29) := ⟨_, rfl⟩
  have k0 : Kp w W0 := by rw [hW0]; exact kp_alloc w _
  have bb : Blk W0 w.heap.size 29 #[.string S, .slice ia il ic, .slice da dl dcp] := by rw [hW0]; exact Blk.new _ _ _
  have HIM : Hid (Sts W0 (.slice ia il ic) f.im) := Lib.hid (by rw [hil]; exact HS.out.im.kp k0)
  have HDC : Hid (Dcs W0 (.slice da dl dcp) f.dc) := Lib.hid (by rw [hdl]; exact HS.out.dc.kp k0)
  rw [← hil, ← hdl, ← hSS]
  rw [← hdl] at hdl6
  have HIL := Lib.hid hil; have HDL := Lib.hid hdl; have HSS := Lib.hid hSS
  have K0 := Lib.hid k0; have BB := Lib.hid bb
  have c2 := bb.cell 2 rfl
  have HW0 := Lib.hid hW0
  rw [hW0] at c2
  have HOW0 : Hid (OwI W0 W0 (.slice none 0 0) ((f.dc.take 0).map idt)) := Lib.hid ⟨World.ownsRow_nil _ _ _ _, Kp.refl _⟩
  obtain ⟨E, hE⟩ : ∃ E, E = dstB f := ⟨_, rfl⟩
  rw [← hE]
  have HE := Lib.hid hE
  have HALL0 : Hid (∀ d ∈ f.dc.take 0, dis [] d.ps = true) := Lib.hid (fun d hd => by simp at hd)
  clear hil hdl hSS hE k0 bb hS hok hil9 hW0
  go_enter Tryz.func27, Tryz.ntmps27
  go_wp2_with fail
  rw [← HW0.out] at c2 ⊢
  go_loopw [3, 9] (fun nv iv wy => ∃ (i : Nat) (io : Option Addr) (ic : Nat), i ≤ dl ∧ iv = .int .i64 i ∧ nv = .slice io i ic ∧ Hid (OwI W0 wy (.slice io i ic) ((f.dc.take i).map idt)) ∧ Hid (∀ d ∈ f.dc.take i, dis [] d.ps = true)) (fun _ iv _ => dl - (intOf iv).toNat)
  case atStart => exact ⟨0, none, 0, Nat.zero_le _, rfl, rfl, HOW0, HALL0⟩
  case round =>
    obtain ⟨i, io, ic2, hi, rfl, rfl, HOW, HALL⟩ := hrel
    rename World => wy
    have HKP : Hid (Kp W0 wy) := Lib.hid HOW.out.kp
    obtain ⟨xs, hxs⟩ : ∃ xs, xs = (f.dc.take i).map idt := ⟨_, rfl⟩
    rw [← hxs] at HOW
    have HXS := Lib.hid hxs
    clear hxs
    by_cases hil : i < dl
    · obtain ⟨x, hx⟩ : ∃ x, f.dc[i]? = some x := ⟨_, List.getElem?_eq_getElem (by have := HDL.out; omega)⟩
      obtain ⟨⟨lo', lc', e1, -, hcell⟩, -⟩ := HDC.out.kp HKP.out
      simp only [Value.slice.injEq] at e1
      obtain ⟨rfl, -, rfl⟩ := e1
      rcases hcell with h0 | ⟨g, o, rfl, hcell⟩
      · rw [h0] at hx; cases hx
      obtain ⟨pa, pc, ba, bc, k0, k1, k2, k3, hP, hB⟩ := hcell i x hx
      have HX := Lib.hid hx
      obtain ⟨W1, hW1⟩ : ∃ W1, W1 = wy.alloc (Obj.cells #[.int .i64 x.k, .string (st x.nm), .slice pa x.ps.length pc, .slice ba x.bd.length bc] 38) := ⟨_, rfl⟩
      have kp1 : Kp wy W1 := by rw [hW1]; exact kp_alloc _ _
      have b1 : Blk W1 wy.heap.size 38 #[.int .i64 x.k, .string (st x.nm), .slice pa x.ps.length pc, .slice ba x.bd.length bc] := by rw [hW1]; exact Blk.new _ _ _
      have C := Lib.hid (distinctS_any (hP.kp kp1))
      have B1 := Lib.hid b1
      have HKP1 := Lib.hid kp1
      have d2 := b1.cell 2 rfl
      have HXO : Hid (OkI (idt x)) := Lib.hid ⟨HOK.out x (List.mem_of_getElem? hx), HS.out.dc.ok x (List.mem_of_getElem? hx)⟩
      obtain ⟨SN, hSN⟩ : ∃ S, S = st x.nm := ⟨_, rfl⟩
      obtain ⟨kk, hkk⟩ : ∃ S, S = x.k := ⟨_, rfl⟩
      obtain ⟨pl, hpl⟩ : ∃ S, S = x.ps.length := ⟨_, rfl⟩
      obtain ⟨bl, hbl⟩ : ∃ S, S = x.bd.length := ⟨_, rfl⟩
      obtain ⟨q, hq⟩ : ∃ q, q = dis [] x.ps := ⟨_, rfl⟩
      rw [← hpl, ← hq] at C
      rw [← hSN, ← hkk, ← hpl, ← hbl] at B1 hW1 d2
      rw [← hkk] at k0
      rw [← hSN] at k1
      rw [← hpl] at k2
      rw [← hbl] at k3
      have HSN := Lib.hid hSN; have HKK := Lib.hid hkk; have HQQ := Lib.hid hq
      have HW1 := Lib.hid hW1
      rw [hW1] at d2
      clear hSN hkk hpl hbl hP hB hcell hx hW1 kp1 b1 hq
      cases q with
      | false =>
        have FIN : Hid (E = false) := Lib.hid (by
          rw [HE.out]
          unfold dstB
          have : f.dc.all (fun d => dis [] d.ps) = false := by
            rw [List.all_eq_false]
            exact ⟨x, List.mem_of_getElem? HX.out, by rw [← HQQ.out]; simp⟩
          rw [this]; rfl)
        go_wp2_with fail
        rw [← HW1.out]
        refine C.out.mono ?_
        rintro e W2 ⟨rfl, hk2⟩
        have HK2 := Lib.hid (Kp.trans K0.out (Kp.trans HKP.out (Kp.trans HKP1.out hk2)))
        clear hk2 d2
        go_wp2_with fail
        go_ret
        exact ⟨by rw [FIN.out]; simp, HK2.out⟩
      | true =>
        go_wp2_with fail
        rw [← HW1.out]
        refine C.out.mono ?_
        rintro e W2 ⟨rfl, hk2⟩
        have b2 := B1.out.keep hk2
        have e0 := b2.cell 0 rfl; have e1 := b2.cell 1 rfl
        obtain ⟨W3, hW3⟩ : ∃ W3, W3 = W2.alloc (Obj.cells #[.int .i64 kk, .string SN] 98) := ⟨_, rfl⟩
        have b3 : Blk W3 W2.heap.size 98 #[.int .i64 (idt x).1, .string (st (idt x).2)] := by
          have : Blk W3 W2.heap.size 98 #[.int .i64 kk, .string SN] := by rw [hW3]; exact Blk.new _ _ _
          rw [HKK.out, HSN.out] at this
          exact this
        have kp3 : Kp W2 W3 := by rw [hW3]; exact kp_alloc _ _
        have HOW3 : Hid (OwI W0 W3 (.slice io i ic2) xs) := Lib.hid (HOW.out.keep (Kp.trans HKP1.out (Kp.trans hk2 kp3)))
        have HB3 := Lib.hid b3; have HW3 := Lib.hid hW3
        have HLN : Hid (xs.length ≤ 1000000) := Lib.hid (by rw [HXS.out, List.length_map, List.length_take]; omega)
        clear hk2 b2 b3 kp3 hW3 d2
        go_wp2_with (at_builtin; rw [← HW3.out]; refine wpList_idt rfl (.tmp 17) (.tmp 23) rfl _ rfl HOW3.out HLN.out (idt x) _ rfl HB3.out ?_)
        intro v' w7 hv'
        have EQ : xs ++ [idt x] = (f.dc.take (i + 1)).map idt := by
          rw [HXS.out, List.take_add_one, HX.out]; simp
        have LEN : ((f.dc.take (i + 1)).map idt).length = i + 1 := by
          rw [List.length_map, List.length_take]; have := HDL.out; omega
        rw [EQ] at hv'
        obtain ⟨ao7, c7, rfl⟩ : ∃ ao c, v' = .slice ao (i + 1) c := by
          obtain ⟨a, c, e⟩ := row_open (owns_zero hv'.owns)
          exact ⟨a, c, by rw [e, LEN]⟩
        have HV := Lib.hid hv'
        have HALL2 : Hid (∀ d ∈ f.dc.take (i + 1), dis [] d.ps = true) := Lib.hid (fun d hd => by
          rw [List.take_add_one, HX.out] at hd
          rcases List.mem_append.1 hd with hd | hd
          · exact HALL.out d hd
          · obtain rfl : d = x := by simpa using hd
            exact HQQ.out.symm)
        clear hv' EQ LEN
        go_wp2_with fail
        go_roundw
        case rel => exact ⟨i + 1, ao7, c7, by omega, vint (by omega), rfl, HV, HALL2⟩
        case measure => simp [intOf]; omega
    · have hid : i = dl := by omega
      have HTK : Hid (f.dc.take i = f.dc) := Lib.hid (List.take_of_length_le (by have := HDL.out; omega))
      have bk := BB.out.keep HKP.out
      have c0 := bk.cell 0 rfl; have c1 := bk.cell 1 rfl
      obtain ⟨W1, hW1⟩ : ∃ W1, W1 = wy.alloc (Obj.cells #[.string S] 9) := ⟨_, rfl⟩
      have kp1 : Kp wy W1 := by rw [hW1]; exact kp_alloc _ _
      have c1w : W1.cell? ⟨w.heap.size, 1, none⟩ = some (.slice ia il ic) := cell_kept c1 kp1
      rw [hW1] at c1w
      have b1 : Blk W1 wy.heap.size 9 #[.string (st f.pk)] := by rw [hW1, ← HSS.out]; exact Blk.new _ _ _
      have HB1 := Lib.hid b1; have HKP1 := Lib.hid kp1; have HW1 := Lib.hid hW1
      have HIM1 : Hid (Sts W1 (.slice ia il ic) f.im) := Lib.hid (HIM.out.kp (Kp.trans HKP.out kp1))
      have HIDS : Hid (Ids W1 (.slice io i ic2) (f.dc.map idt)) := Lib.hid (by
        have h1 := HOW.out.keep kp1
        rw [HXS.out, HTK.out] at h1
        refine h1.ids (by rw [List.length_map]; have := HDL.out; omega) (fun y hy => ?_)
        obtain ⟨d, hd, rfl⟩ := List.mem_map.1 hy
        exact ⟨HOK.out d hd, HS.out.dc.ok d hd⟩)
      have HAA : Hid (f.dc.all (fun d => dis [] d.ps) = true) := Lib.hid (by
        rw [List.all_eq_true]
        intro d hd
        rw [← HTK.out] at hd
        exact HALL.out d hd)
      clear bk kp1 b1 hW1 hi hid
      go_wp2_with (at_builtin; rw [← HW1.out]; refine wpList_lit (w := wy) rfl (.tmp 28) (.tmp 30) rfl rfl HB1.out (Nat.le_refl _) HKP1.out rfl HIM1.out HS.out.pk HI9.out ?_)
      intro ao5 c5 W5 hs5 hk5
      have C := Lib.hid (distinctS_any hs5)
      have HK5 := Lib.hid hk5
      obtain ⟨n5, hn5⟩ : ∃ n, n = f.im.length + 1 := ⟨_, rfl⟩
      rw [← hn5] at C ⊢
      obtain ⟨q, hq⟩ : ∃ q, q = dis [] (f.pk :: f.im) := ⟨_, rfl⟩
      rw [← hq] at C
      have HQQ := Lib.hid hq
      clear hs5 hk5 hn5 hq c0 c1 c1w
      cases q with
      | false =>
        have FIN : Hid (E = false) := Lib.hid (by
          rw [HE.out]; unfold dstB; rw [HAA.out, ← HQQ.out]; rfl)
        go_wp2_with fail
        refine C.out.mono ?_
        rintro e W6 ⟨rfl, hk6⟩
        have HK6 := Lib.hid (Kp.trans K0.out (Kp.trans HKP.out (Kp.trans HK5.out hk6)))
        clear hk6
        go_wp2_with fail
        go_ret
        exact ⟨by rw [FIN.out]; simp, HK6.out⟩
      | true =>
        go_wp2_with fail
        refine C.out.mono ?_
        rintro e W6 ⟨rfl, hk6⟩
        have hK6 := Kp.trans HKP.out (Kp.trans HK5.out hk6)
        have HI6 : Hid (Ids W6 (.slice io i ic2) (f.dc.map idt)) := Lib.hid (by
          have h1 := HOW.out.keep (Kp.trans HK5.out hk6)
          rw [HXS.out, HTK.out] at h1
          refine h1.ids (by rw [List.length_map]; have := HDL.out; omega) (fun y hy => ?_)
          obtain ⟨d, hd, rfl⟩ := List.mem_map.1 hy
          exact ⟨HOK.out d hd, HS.out.dc.ok d hd⟩)
        have HK6 := Lib.hid (Kp.trans K0.out hK6)
        have CI := Lib.hid (distinctI_any HI6.out)
        obtain ⟨q2, hq2⟩ : ∃ q, q = disI [] (f.dc.map idt) := ⟨_, rfl⟩
        rw [← hq2] at CI
        have FIN : Hid (E = q2) := Lib.hid (by
          rw [HE.out]; unfold dstB; rw [HAA.out, ← HQQ.out, ← hq2]; rfl)
        clear hk6 hK6 hq2
        go_wp2_with fail
        refine CI.out.mono ?_
        rintro e W7 ⟨rfl, hk7⟩
        have HK7 := Lib.hid (Kp.trans HK6.out hk7)
        clear hk7
        go_wp2_with fail
        go_ret
        exact ⟨by rw [FIN.out]; rfl, HK7.out⟩
end By
end Go.Proofs.YtmflgfojicaecaaGreatDoor

/- Check of a source: what it answers. Conditions: names have at most a million bytes, rows fewer than a million items; the package variables that the code reads lie in memory. -/
namespace SrcN
/-- The first error that applies. -/
def chk (f : XS) : Nat := if srcB f then if dstB f then if smlB f then 0 else 2 else 10 else 9
theorem declB_kind {d : XD} (h : declB d = true) : 1 ≤ d.k ∧ d.k ≤ 3 := by
  unfold declB at h
  split at h
  · omega
  · split at h
    · omega
    · split at h
      · omega
      · cases h
theorem srcB_decl {f : XS} (h : srcB f = true) : ∀ d ∈ f.dc, declB d = true := by
  unfold srcB at h
  simp only [Bool.and_eq_true] at h
  exact List.all_eq_true.1 h.2.2
end SrcN
namespace Go.Proofs.YtmflgfojicaecaaGreatDoor
namespace By
open Go.RowKit WireN LexN SrcN
set_option linter.unusedVariables false
set_option linter.unusedSimpArgs false

set_option maxRecDepth 100000 in
set_option maxHeartbeats 4000000 in
theorem Check_any {f : XS} {iv dv : Value} {w : World} (hG : Glob w) (hS : SrcV w iv dv f) (hil9 : f.im.length < 1000000) :
    Calls Tryz.prog 9 #[.agg #[.string (st f.pk), iv, dv]] w fun e w' => e = .returned (.int .i64 (chk f : Nat)) ∧ Kp w w' := by
  have HS := Lib.hid hS; have HG := Lib.hid hG; have H9 := Lib.hid hil9
  obtain ⟨⟨ia, ic, rfl, -, -⟩, -⟩ := hS.im
  obtain ⟨⟨da, dcp, rfl, -, -⟩, -⟩ := hS.dc
  obtain ⟨W0, hW0⟩ : ∃ W0, W0 = w.alloc (Obj.cells #[.string (st f.pk), .slice ia f.im.length ic, .slice da f.dc.length dcp] 29) := ⟨_, rfl⟩
  have k0 : Kp w W0 := by rw [hW0]; exact kp_alloc w _
  have bb : Blk W0 w.heap.size 29 #[.string (st f.pk), .slice ia f.im.length ic, .slice da f.dc.length dcp] := by rw [hW0]; exact Blk.new _ _ _
  obtain ⟨p1, hp1⟩ : ∃ b, b = srcB f := ⟨_, rfl⟩
  obtain ⟨p2, hp2⟩ : ∃ b, b = dstB f := ⟨_, rfl⟩
  obtain ⟨p3, hp3⟩ : ∃ b, b = smlB f := ⟨_, rfl⟩
  have C1 : Hid (∀ W, Kp w W → Calls Tryz.prog 26 #[.agg #[.string (st f.pk), .slice ia f.im.length ic, .slice da f.dc.length dcp]] W fun e w' => e = .returned (.bool p1) ∧ Kp W w') := Lib.hid (fun W hk => by rw [hp1]; exact isSource_any (HG.out.kp' hk) (HS.out.kp hk))
  have C2 : Hid (∀ W, p1 = true → Kp w W → Calls Tryz.prog 27 #[.agg #[.string (st f.pk), .slice ia f.im.length ic, .slice da f.dc.length dcp]] W fun e w' => e = .returned (.bool p2) ∧ Kp W w') := Lib.hid (fun W h hk => by rw [hp2]; exact isDistinct_any (HS.out.kp hk) H9.out (fun d hd => declB_kind (srcB_decl (hp1 ▸ h) d hd)))
  have C3 : Hid (∀ W, p1 = true → Kp w W → Calls Tryz.prog 28 #[.agg #[.string (st f.pk), .slice ia f.im.length ic, .slice da f.dc.length dcp]] W fun e w' => e = .returned (.bool p3) ∧ Kp W w') := Lib.hid (fun W h hk => by rw [hp3]; exact isSmall_any (HG.out.kp' hk) (HS.out.kp hk) (hp1 ▸ h))
  have HD : Hid (chk f = if p1 then if p2 then if p3 then 0 else 2 else 10 else 9) := Lib.hid (by unfold chk; rw [hp1, hp2, hp3])
  obtain ⟨E, hE⟩ : ∃ b, b = chk f := ⟨_, rfl⟩
  rw [← hE] at HD ⊢
  obtain ⟨S, hSS⟩ : ∃ x, x = st f.pk := ⟨_, rfl⟩
  obtain ⟨il, hil⟩ : ∃ x, x = f.im.length := ⟨_, rfl⟩
  obtain ⟨dl, hdl⟩ : ∃ x, x = f.dc.length := ⟨_, rfl⟩
  rw [← hSS, ← hil, ← hdl] at C1 C2 C3 hW0 bb ⊢
  have K0 := Lib.hid k0; have HW0 := Lib.hid hW0; have BB := Lib.hid bb
  have c0 := bb.cell 0 rfl; have c1 := bb.cell 1 rfl; have c2 := bb.cell 2 rfl
  rw [hW0] at c0 c1 c2
  clear hp1 hp2 hp3 hE hSS hil hdl hW0 k0 bb hS hG hil9
  cases p1 with
  | false =>
    have FIN : Hid (E = 9) := Lib.hid (by rw [HD.out]; rfl)
    go_enter Tryz.func9, Tryz.ntmps9
    go_wp2_with fail
    rw [← HW0.out]
    refine (C1.out _ K0.out).mono ?_
    rintro e W1 ⟨rfl, hk1⟩
    have HK1 := Lib.hid (Kp.trans K0.out hk1)
    clear hk1 c0 c1 c2
    go_wp2_with fail
    go_ret
    exact ⟨by rw [FIN.out]; rfl, HK1.out⟩
  | true =>
    cases p2 with
    | false =>
      have FIN : Hid (E = 10) := Lib.hid (by rw [HD.out]; rfl)
      go_enter Tryz.func9, Tryz.ntmps9
      go_wp2_with fail
      rw [← HW0.out]
      refine (C1.out _ K0.out).mono ?_
      rintro e W1 ⟨rfl, hk1⟩
      have HK1 := Lib.hid (Kp.trans K0.out hk1)
      have b1 := BB.out.keep hk1
      have d0 := b1.cell 0 rfl; have d1 := b1.cell 1 rfl; have d2 := b1.cell 2 rfl
      clear hk1 c0 c1 c2 b1
      go_wp2_with fail
      refine (C2.out _ trivial HK1.out).mono ?_
      rintro e W2 ⟨rfl, hk2⟩
      have HK2 := Lib.hid (Kp.trans HK1.out hk2)
      clear hk2 d0 d1 d2
      go_wp2_with fail
      go_ret
      exact ⟨by rw [FIN.out]; rfl, HK2.out⟩
    | true =>
      have FIN : Hid (E = if p3 then 0 else 2) := Lib.hid (by rw [HD.out]; rfl)
      go_enter Tryz.func9, Tryz.ntmps9
      go_wp2_with fail
      rw [← HW0.out]
      refine (C1.out _ K0.out).mono ?_
      rintro e W1 ⟨rfl, hk1⟩
      have HK1 := Lib.hid (Kp.trans K0.out hk1)
      have b1 := BB.out.keep hk1
      have HB1 := Lib.hid b1
      have d0 := b1.cell 0 rfl; have d1 := b1.cell 1 rfl; have d2 := b1.cell 2 rfl
      clear hk1 c0 c1 c2 b1
      go_wp2_with fail
      refine (C2.out _ trivial HK1.out).mono ?_
      rintro e W2 ⟨rfl, hk2⟩
      have HK2 := Lib.hid (Kp.trans HK1.out hk2)
      have b2 := HB1.out.keep hk2
      have e0 := b2.cell 0 rfl; have e1 := b2.cell 1 rfl; have e2 := b2.cell 2 rfl
      clear hk2 d0 d1 d2 b2
      go_wp2_with fail
      refine (C3.out _ trivial HK2.out).mono ?_
      rintro e W3 ⟨rfl, hk3⟩
      have HK3 := Lib.hid (Kp.trans HK2.out hk3)
      clear hk3 e0 e1 e2
      cases p3 with
      | false =>
        go_wp2_with fail
        go_ret
        exact ⟨by rw [FIN.out]; rfl, HK3.out⟩
      | true =>
        go_wp2_with fail
        go_ret
        exact ⟨by rw [FIN.out]; rfl, HK3.out⟩
end By
end Go.Proofs.YtmflgfojicaecaaGreatDoor
