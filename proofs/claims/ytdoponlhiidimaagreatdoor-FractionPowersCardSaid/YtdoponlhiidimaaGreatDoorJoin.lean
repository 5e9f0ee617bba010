/- The contract of joinBackward: the strings of a list, the last one first, as one string. Condition: together at most 2^47 bytes. -/
import Derived.Test.YtdoponlhiidimaaGreatDoorBuild
import Derived.RangeFuncNested
import Derived.RangeFuncBound
import Derived.RangeFuncCalls
import Derived.RangeFuncLeaves
import Derived.RangeFuncBox
import Derived.RangeFuncFrom
import Derived.Shelf.Abstract
import Derived.Shelf.RegionOpen
import Derived.OwnWalkIn
import Derived.TacticsInMore
import Derived.LoopNIn
import Derived.LoopIn
namespace Go.Proofs.YtdoponlhiidimaaGreatDoor
open Go.RowKit Go.Shelf

attribute [local go_sem] Oper.semAt_some

/-- A string of at most 1000 bytes. -/
abbrev Sm := { s : ByteArray // s.size ≤ 1000 }
def emp : Sm := ⟨ByteArray.empty, by decide⟩
def upto {α : Type} (f : Nat → α) (k : Nat) : List α := (List.range k).map f
theorem upto_succ {α : Type} (f : Nat → α) (k : Nat) : upto f (k + 1) = upto f k ++ [f k] := by simp [upto, List.range_succ]
theorem upto_length {α : Type} (f : Nat → α) (k : Nat) : (upto f k).length = k := by simp [upto]
/-- What a round keeps: what lay below n₀, and the cell that the iterator reads again. -/
structure KB (n₀ Bs : Nat) (W W' : World) : Prop where
  below : Below n₀ W W'
  box : ∀ v, W.cell? ⟨Bs, 0, none⟩ = some v → W'.cell? ⟨Bs, 0, none⟩ = some v
theorem KB.refl (n₀ Bs : Nat) (W : World) : KB n₀ Bs W W := ⟨Below.refl _ _, fun _ h => h⟩
theorem KB.trans {n₀ Bs : Nat} {A B C : World} (h : KB n₀ Bs A B) (k : KB n₀ Bs B C) : KB n₀ Bs A C := ⟨h.below.trans k.below, fun v e => k.box v (h.box v e)⟩
theorem KB.put {n₀ Bs : Nat} {w : World} (hn : n₀ ≤ w.heap.size) (W : World) (l : Nat) (o o' : Obj) (hl : w.heap.size ≤ l) (h : W.heap[l]? = some o) (h1 : o.isCells = false) (h2 : o.isWalk = false) : KB n₀ Bs W (W.putObj l o') :=
  ⟨belowK_b hn W l o o' hl h h1 h2, fun v e => cell_kept e (grownBy_putObj' W l o') (fun r er => by cases er; exact ⟨o, h, h1⟩)⟩
/-- What comes in round t. -/
def back (ss : List Sm) (t : Nat) : Nat × Sm := (ss.length - 1 - t, ss[ss.length - 1 - t]?.getD emp)

set_option maxRecDepth 100000 in
set_option maxHeartbeats 2000000 in
theorem back1_in (F : Fence) (n : Nat) (h8 : F.fn 120) (hro : F.round = none) (hn : 1 ≤ n) (l Bs n₀ b off len cap : Nat) (ss : List Sm) (hls : ss.length = len) (hreach : len * 8 ≤ 140737488351232) (hb : b < n₀) (J Jx : List (Nat × Sm) → World → Prop)
    (hY : ∀ pre x W, J pre W → pre.length < len → YieldAt F (n - 1) Tryz.prog l #[.int .i64 (x.1 : Int), .string x.2.1] W fun e W' =>
      (e = .returned (.bool true) ∧ J (pre ++ [x]) W' ∧ KB n₀ Bs W W') ∨ (e = .returned (.bool false) ∧ Jx (pre ++ [x]) W'))
    (W : World) (hBs : W.cell? ⟨Bs, 0, none⟩ = some (.slice (some ⟨b, off, none⟩) len cap)) (hc : ∀ j, j < len → W.cell? ⟨b, off + j, none⟩ = some (.string (ss[j]?.getD emp).1)) (h0 : J [] W) :
    CallsIn F n Tryz.prog 120 #[.func (.yield l) #[] #[], .pointer (some ⟨Bs, 0, none⟩)] W fun e W' => (∃ v, e = .returned v) ∧
      ((∃ ys, ys = upto (back ss) len ∧ J ys W') ∨ (∃ pre, (∃ k, k ≤ len ∧ pre = upto (back ss) k) ∧ Jx pre W')) := by
  have HLS := Lib.hid hls; clear hls
  refine callsIn_of_wp Tryz.func120 rfl h8 ?_ hro
  simp only [Tryz.ntmps120, List.size_toArray, List.length_cons, List.length_nil, Nat.reduceAdd, Nat.reduceSub, Array.replicate_succ, Array.replicate_zero, List.push_toArray, List.append_toArray, List.nil_append, List.cons_append]
  gi_wp2
  gi_loopw [3] (fun i wr => ∃ j : Int, -1 ≤ j ∧ j < len ∧ i = .int .i64 j ∧ J (upto (back ss) ((len : Int) - 1 - j).toNat) wr ∧ KB n₀ Bs W wr)
    (fun i _ => (intOf i + 1).toNat)
  case atStart => exact ⟨_, by omega, by omega, rfl, by rw [show ((len : Int) - 1 - ((len : Int) - 1)).toNat = 0 by omega]; exact h0, KB.refl _ _ _⟩
  case round =>
    obtain ⟨j, hj1, hj2, rfl, hJs, hnx⟩ := hrel
    by_cases hj : 0 ≤ j
    · obtain ⟨m, rfl⟩ := Int.eq_ofNat_of_zero_le hj
      have hcx : wr.cell? ⟨b, off + m, none⟩ = some (.string (ss[m]?.getD emp).1) := (hnx.below.cell (p := ⟨b, off + m, none⟩) hb).trans (hc m (by omega))
      have hbx : wr.cell? ⟨Bs, 0, none⟩ = some (.slice (some ⟨b, off, none⟩) len cap) := hnx.box _ hBs
      obtain ⟨s, hs⟩ : ∃ s, s = ss[m]?.getD emp := ⟨_, rfl⟩
      rw [← hs] at hcx
      have hk : ((len : Int) - 1 - (m : Int)).toNat = len - 1 - m := by omega
      rw [hk] at hJs
      have hbk : Hid (back ss (len - 1 - m) = (m, s)) := by
        show _ = _
        unfold back
        rw [HLS.out, hs, show len - 1 - (len - 1 - m) = m by omega]
      clear hs hk
      obtain ⟨fn, tmps, assign, body, hy, hR⟩ := hY _ (m, s) wr hJs (by rw [upto_length]; omega)
      dsimp only at hy
      gi_wp2
      refine hR.mono ?_
      rintro e W3 (⟨rfl, hJ3, hk3⟩ | ⟨rfl, hJx3⟩)
      · gi_wp2
        go_roundw
        case rel =>
          refine ⟨(m : Int) - 1, by omega, by omega, by go_num, ?_, hnx.trans hk3⟩
          rw [show ((len : Int) - 1 - ((m : Int) - 1)).toNat = (len - 1 - m) + 1 by omega, upto_succ, hbk.out]
          exact hJ3
        case measure => simp [intOf]
      · gi_wp2
        refine bodyPost_ret (results_none rfl _ _ _) rfl ?_
        exact ⟨⟨_, rfl⟩, .inr ⟨_, ⟨(len - 1 - m) + 1, by omega, by rw [upto_succ, hbk.out]⟩, hJx3⟩⟩
    · have hj' : j = -1 := by omega
      subst hj'
      rw [show ((len : Int) - 1 - (-1)).toNat = len by omega] at hJs
      gi_wp2
      go_end0
      exact ⟨⟨_, rfl⟩, .inl hJs⟩

set_option maxRecDepth 100000 in
set_option maxHeartbeats 1000000 in
theorem back1_nil (F : Fence) (n : Nat) (h8 : F.fn 120) (hro : F.round = none) (l Bs : Nat) (J : List (Nat × Sm) → World → Prop) (W : World) (hBs : W.cell? ⟨Bs, 0, none⟩ = some (.slice none 0 0)) (h0 : J [] W) :
    CallsIn F n Tryz.prog 120 #[.func (.yield l) #[] #[], .pointer (some ⟨Bs, 0, none⟩)] W fun e W' => (∃ v, e = .returned v) ∧ J [] W' := by
  refine callsIn_of_wp Tryz.func120 rfl h8 ?_ hro
  simp only [Tryz.ntmps120, List.size_toArray, List.length_cons, List.length_nil, Nat.reduceAdd, Nat.reduceSub, Array.replicate_succ, Array.replicate_zero, List.push_toArray, List.append_toArray, List.nil_append, List.cons_append]
  gi_wp2
  gi_loopw [3] (fun i wr => i = .int .i64 (-1) ∧ J [] wr) (fun _ _ => 0)
  case atStart => exact ⟨rfl, h0⟩
  case round =>
    obtain ⟨rfl, hJs⟩ := hrel
    gi_wp2
    go_end0
    exact ⟨⟨_, rfl⟩, hJs⟩
set_option maxHeartbeats 1000000 in
theorem back_in (F : Fence) (n : Nat) (h6 : F.fn 105) (hro : F.round = none) (a : Option Addr) (len cap : Nat) (w : World) :
    CallsIn F n Tryz.prog 105 #[.slice a len cap] w fun e w' => e = .returned (.func (.func 120) #[] #[.pointer (some ⟨w.heap.size, 0, none⟩)]) ∧ w' = w.alloc (.cells #[.slice a len cap] 94) := by
  refine callsIn_of_wp Tryz.func105 rfl h6 ?_ hro
  simp only [Tryz.ntmps105, List.size_toArray, List.length_cons, List.length_nil, Nat.reduceAdd, Nat.reduceSub, Array.replicate_succ, Array.replicate_zero, List.push_toArray, List.append_toArray, List.nil_append, List.cons_append]
  gi_wp2
  go_ret
  exact ⟨rfl, rfl⟩
/-- The slice value holds the strings, in a block below n₀; or it is nil and there are none. -/
def Strs (n₀ : Nat) (W : World) (sv : Value) (ss : List Sm) : Prop :=
  (sv = .slice none 0 0 ∧ ss = []) ∨ ∃ b off cap, sv = .slice (some ⟨b, off, none⟩) ss.length cap ∧ b < n₀ ∧ ∀ j, j < ss.length → W.cell? ⟨b, off + j, none⟩ = some (.string (ss[j]?.getD emp).1)
theorem Strs.below {n₀ : Nat} {A B : World} (h : Below n₀ A B) {sv : Value} {ss : List Sm} : Strs n₀ A sv ss → Strs n₀ B sv ss
  | .inl e => .inl e
  | .inr ⟨b, off, cap, e, hb, hc⟩ => .inr ⟨b, off, cap, e, hb, fun j hj => (h.cell (p := ⟨b, off + j, none⟩) hb).trans (hc j hj)⟩
theorem Strs.mono {n₀ n₁ : Nat} {A : World} (h : n₀ ≤ n₁) {sv : Value} {ss : List Sm} : Strs n₀ A sv ss → Strs n₁ A sv ss
  | .inl e => .inl e
  | .inr ⟨b, off, cap, e, hb, hc⟩ => .inr ⟨b, off, cap, e, by omega, hc⟩
theorem back_stops (F : Fence) (n : Nat) (h8 : F.fn 120) (hro : F.round = none) (hn : 1 ≤ n) (Bs n₀ : Nat) (sv : Value) (ss : List Sm) (hreach : ss.length * 8 ≤ 140737488351232) (w : World) (hBs : Bs < w.heap.size) (hn₀ : n₀ ≤ w.heap.size)
    (hc : w.cell? ⟨Bs, 0, none⟩ = some sv) (hI : Strs n₀ w sv ss) :
    SeqStopsK F n Tryz.prog 120 #[.pointer (some ⟨Bs, 0, none⟩)] (fun x : Nat × Sm => #[Value.int .i64 (x.1 : Int), Value.string x.2.1]) (KB n₀ Bs) (fun ys => ys = upto (back ss) ss.length)
      (fun pre => ∃ k, k ≤ ss.length ∧ pre = upto (back ss) k) ss.length w := fun l J Jx W hW _ _ hY h0 => by
  have hc' := (hW.cell (p := ⟨Bs, 0, none⟩) hBs).trans hc
  rcases hI.below (hW.mono hn₀) with ⟨rfl, rfl⟩ | ⟨b, off, cap, rfl, hb, hcs⟩
  · exact (back1_nil F n h8 hro l Bs J W hc' h0).mono fun e W' ⟨he, hj⟩ => ⟨he, .inl ⟨_, rfl, hj⟩⟩
  · exact back1_in F n h8 hro hn l Bs n₀ b off ss.length cap ss rfl hreach hb J Jx hY W hc' hcs h0

/-- The bytes of the strings that have come. -/
def bytesOf (pre : List (Nat × Sm)) : List UInt8 := (pre.map fun x => x.2.1.data.toList).flatten
theorem bytesOf_snoc (pre : List (Nat × Sm)) (x : Nat × Sm) : bytesOf (pre ++ [x]) = bytesOf pre ++ x.2.1.data.toList := by simp [bytesOf]
theorem builder_own (B b : Nat) (f : List (Nat × Sm) → List Value) : Own (fun pre W => Lib.IsBuilder 113 5 B b (f pre) W) := by
  intro s A A' row hs hg hr
  have key : ∀ p, Lib.BuilderAt 113 5 B b p (f s) A → Lib.BuilderAt 113 5 B b p (f s) A' := by
    rintro p ⟨hB, v, hbk, hown, hne⟩
    refine ⟨hB, v, (grownBy_keeps_cells hg hr hbk rfl).trans hbk, ?_, hne⟩
    refine hown.kept hg ?_
    rcases hown.2 with ⟨rfl, _⟩ | ⟨g, cap, cur, rfl, _, hgg, _⟩
    · exact .inl rfl
    · right
      intro e
      obtain ⟨o, ho, hoc⟩ := hr g (by rw [← e]; rfl)
      rw [hgg] at ho
      cases ho
      cases hoc
  exact hs.imp (key _) (key _)
theorem byteCells_append (xs ys : List UInt8) : Lib.byteCells (xs ++ ys) = Lib.byteCells xs ++ Lib.byteCells ys := by simp [Lib.byteCells]
theorem strCells_eq (s : ByteArray) : Lib.strCells s = Lib.byteCells s.data.toList := by rfl
theorem keeps_of {e : TypeId} {b : Nat} {W W' : World} (h : Lib.OthersKept e (some b) W W') (hs : W.heap.size ≤ W'.heap.size) {cs : Array Value} {t : TypeId} {f : Nat × Nat} (hb : W.heap[b]? = some (.cells cs t f)) : KeepsOthers W W' := by
  refine ⟨hs, fun k o hk ho => h k o hk (fun e => ?_) (fun c fz e => ?_)⟩
  · cases e
    rw [hb] at hk
    cases hk
    cases ho
  · subst e; cases ho
theorem builder_blk {B b : Nat} {bs : List Value} {W : World} (h : Lib.IsBuilder 113 5 B b bs W) : ∃ cs t f, W.heap[b]? = some (.cells cs t f) := by
  rcases h with ⟨_, v, h, _⟩ | ⟨_, v, h, _⟩
  · exact ⟨_, _, _, h⟩
  · exact ⟨_, _, _, h⟩
theorem boxed_others {b Bx : Nat} {v : Value} {W W' : World} (h : Lib.OthersKept 5 (some b) W W') (hne : Bx ≠ b) (hb : Boxed W Bx 94 v) : Boxed W' Bx 94 v :=
  h Bx _ hb (fun e => hne (by cases e; rfl)) (fun c fz e => by simp at e)
set_option maxRecDepth 100000 in
set_option maxHeartbeats 2000000 in
theorem join_any (a : Option Addr) (len cap : Nat) (ss : List Sm) (hreach : ss.length ≤ 1000000) (w : World) (hI : Strs w.heap.size w (.slice a len cap) ss) :
    Calls Tryz.prog 80 #[.slice a len cap] w fun e W' => e = .returned (.string ⟨(bytesOf (upto (back ss) ss.length)).toArray⟩) ∧ Below w.heap.size w W' := by
  refine (callsIn_wide (n := 5)).1 ?_
  refine callsIn_of_wp_marks Tryz.func80 rfl trivial ?_ rfl
  simp only [Tryz.ntmps80, List.size_toArray, List.length_cons, List.length_nil, Nat.reduceAdd, Nat.reduceSub, Array.replicate_succ, Array.replicate_zero, List.push_toArray, List.append_toArray, List.nil_append, List.cons_append]
  gi_wp2_with fail
  refine ⟨trivial, ?_⟩
  refine (back_in Fence.wide _ trivial rfl _ _ _ _).mono ?_
  rintro e w' ⟨rfl, rfl⟩
  have bN := Boxed.new (w.alloc (.cells #[.pointer none, .slice none 0 0] 113)) 94 (.slice a len cap)
  rw [World.size_alloc] at bN
  have hB0 : Below w.heap.size w ((w.alloc (.cells #[.pointer none, .slice none 0 0] 113)).alloc (.cells #[.slice a len cap] 94)) := ((Below.refl _ w).alloc (Nat.le_refl _) _).alloc (by simp) _
  have hbld : Lib.IsBuilder 113 5 w.heap.size w.heap.size (Lib.byteCells (bytesOf [])) ((w.alloc (.cells #[.pointer none, .slice none 0 0] 113)).alloc (.cells #[.slice a len cap] 94)) := by
    refine .inl ⟨Nat.le_refl _, .slice none 0 0, ?_, World.ownsRow_nil _ _ _ _, by simp [Value.ownBlock]⟩
    exact (Below.heap_alloc _ _ _ (by simp)).trans (World.alloc_heap_new w _)
  gi_wp2_with fail
  refine wpIn_rangeFunc_ownF rfl (by omega) (gf := 120) (lb := #[.pointer (some ⟨w.heap.size + 1, 0, none⟩)]) rfl trivial (enters_of Tryz.func120 (by kernel_rfl) rfl)
    (back_stops Fence.wide _ trivial rfl (by omega) (w.heap.size + 1) w.heap.size _ ss (by omega) _ (by simp) (by simp; omega) bN.cell (hI.below hB0)) KB.trans (KB.put (by simp; omega)) (Below.refl _ _) (fun _ => rfl)
    (fun pre W => (Lib.IsBuilder 113 5 w.heap.size w.heap.size (Lib.byteCells (bytesOf pre)) W ∧ (bytesOf pre).length ≤ 1000 * pre.length ∧ Boxed W (w.heap.size + 1) 94 (.slice a len cap)) ∧ Below w.heap.size w W)
    (fun _ _ _ => False)
    (OwnFrom.and (Own.from (fun s A B row hs hg hr => ⟨builder_own _ _ (fun pre => Lib.byteCells (bytesOf pre)) s A B row hs.1 hg hr, hs.2.1, boxed_own (β := List (Nat × Sm)) _ _ (fun _ => .slice a len cap) s A B row hs.2.2 hg hr⟩) _) (ownFrom_below (Nat.le_refl _) (by simp; omega)))
    (fun _ _ _ _ _ hs _ _ => hs)
    ⟨⟨hbld, by simp [bytesOf], bN⟩, hB0⟩
    (fun x => { tmps := #[.slice a len cap, undef, .string ⟨#[]⟩, .pointer (some ⟨w.heap.size, 0, none⟩), undef, .string x.2.1, .slice a len cap, .func (.func 120) #[] #[.pointer (some ⟨w.heap.size + 1, 0, none⟩)], .int .i64 (x.1 : Int), .string x.2.1, undef, undef, undef], defers := [] }) ?assign ?body ?done ?stop
  case assign =>
    intro l x W K hK
    gi_wp2
    exact hK
  case body =>
    rintro l pre x W ⟨⟨hbl, hlen, hbx⟩, hB⟩ hlt
    obtain ⟨cs, t, f, hblk⟩ := builder_blk hbl
    have HBLK := Lib.hid hblk; have HBL := Lib.hid hbl; have HBX := Lib.hid hbx
    clear hblk hbl hbx
    have hx2 := x.2.2
    gi_wp2_with fail
    refine ⟨trivial, ?_⟩
    refine (CallsIn.inRound l (callsIn_wide.2 (WriteString_any w.heap.size w.heap.size _ x.2.1 W HBL.out (by simp only [Lib.byteCells, List.length_map]; omega) hB.size))).mono ?_
    rintro e W2 ⟨rfl, hb2, hbe2, hko⟩
    have HB2 := Lib.hid hb2; have HBE := Lib.hid hbe2; have HKO := Lib.hid hko
    clear hb2 hbe2 hko
    gi_wp2
    have hbx2 := boxed_others HKO.out (by omega) HBX.out
    refine ⟨keeps_of HKO.out HBE.out.size HBLK.out, ⟨HBE.out, fun v hv => ?_⟩, ⟨?_, ?_, hbx2⟩, hB.trans HBE.out⟩
    · rw [HBX.out.cell] at hv; rw [hbx2.cell]; exact hv
    · rw [bytesOf_snoc, byteCells_append, ← strCells_eq]; exact .inr HB2.out
    · rw [bytesOf_snoc, List.length_append, List.length_append]
      have : x.2.1.data.toList.length ≤ 1000 := by have := x.2.2; simpa using this
      simp only [List.length_cons, List.length_nil]
      omega
  case done =>
    rintro D ys W hD rfl ⟨⟨hbl, hlen, hbx⟩, hB⟩ hK
    obtain ⟨cs, t, f, hblk⟩ := builder_blk hbl
    have HK := Lib.hid hK; have HBL := Lib.hid hbl
    have hDb : D ≠ w.heap.size := by simp at hD; omega
    clear hK hbl hbx
    gi_wp2_with fail
    refine ⟨trivial, ?_⟩
    refine (callsIn_wide.2 (Tryz.Builder_String_any_k w.heap.size w.heap.size _ W (Lib.IsBuilderF.of HBL.out) hB.size)).mono ?_
    rintro e W2 ⟨rfl, -, hbe2, hko⟩
    have hK2 : W2.heap[D]? = some (.deferred (some [])) := hko D _ HK.out (fun e => hDb (by cases e; rfl)) (fun c fz e => by simp at e)
    gi_wp2
    refine ⟨by simp, .inl ⟨_, _, rfl, run_takeDeferred hK2, ?_⟩⟩
    exact ⟨_, results_tmp rfl _ _ _, rfl, (hB.trans hbe2).trans (belowK_b (w := w) (Nat.le_refl _) W2 D _ _ (by simp at hD; omega) hK2 rfl rfl)⟩
  case stop =>
    rintro D c pre W _ _ h _
    exact h.elim
end Go.Proofs.YtdoponlhiidimaaGreatDoor
