/- The tape of small numbers that the laws draw from: Fold, Next, Text. Conditions: the tape lies in memory as it is named, and has been read fewer than a million times. -/
import Derived.Test.YtmflgfojicaecaaGreatDoorMLd
import Derived.Test.YtmflgfojicaecaaGreatDoorCards
import Derived.Test.YtmflgfojicaecaaGreatDoorTie
import Derived.ProofKit
import Derived.OpenShut
import Derived.SizedLaws
import Derived.Carry
import Derived.LaidSub
import Derived.Lay
import Derived.Deep.DeepHandedRow
import Derived.Test.YtmflgfojicaecaaGreatDoorMWb
import Derived.Lib.LaidTab
import Derived.ChangeSame
namespace Go.Proofs.YtmflgfojicaecaaGreatDoor
namespace By
open Go.RowKit WireN LexN
set_option linter.unusedVariables false
set_option linter.unusedSimpArgs false

/-- A slice that reads as 64-bit integers. -/
def AtI (w : World) (ao : Option Addr) (zs : List Int) : Prop :=
  zs = [] ∨ ∃ b off, ao = some ⟨b, off, none⟩ ∧ ∀ i : Nat, i < zs.length → w.cell? ⟨b, off + i, none⟩ = some (.int .i64 (zs[i]?.getD 0))
structure SlI (w : World) (v : Value) (zs : List Int) : Prop where
  ex : ∃ ao cap, v = .slice ao zs.length cap ∧ zs.length ≤ cap ∧ cap ≤ maxLen ∧ AtI w ao zs
  lt : ∀ i : Nat, -9223372036854775808 ≤ zs[i]?.getD 0 ∧ zs[i]?.getD 0 ≤ 9223372036854775807
  sm : zs.length ≤ 17592186044416
theorem AtI.keep {w w' : World} {ao : Option Addr} {zs : List Int} (h : AtI w ao zs) (hk : Kp w w') : AtI w' ao zs := by
  rcases h with rfl | ⟨b, off, rfl, h⟩
  · exact .inl rfl
  · exact .inr ⟨b, off, rfl, fun i hi => cell_kept (h i hi) hk⟩
theorem SlI.keep {w w' : World} {v : Value} {zs : List Int} (h : SlI w v zs) (hk : Kp w w') : SlI w' v zs := by
  obtain ⟨⟨ao, cap, h1, h2, h3, h4⟩, hl, hs⟩ := h
  exact ⟨⟨ao, cap, h1, h2, h3, h4.keep hk⟩, hl, hs⟩

/-- Only block g has changed, and new memory was made. -/
abbrev Gr (g : Nat) (w w' : World) : Prop := w.grownBy w' (some g)
theorem Gr.refl (g : Nat) (w : World) : Gr g w w := World.grownBy.refl w _
theorem Gr.trans {g : Nat} {a b c : World} (h : Gr g a b) (k : Gr g b c) : Gr g a c :=
  ⟨k.os.trans h.os, k.tape.trans h.tape, k.output.trans h.output, Nat.le_trans h.size k.size, fun i hi hne => (k.block i (Nat.lt_of_lt_of_le hi h.size) hne).trans (h.block i hi hne)⟩
theorem Only.gr {g : Nat} {a b : World} (h : Only g a b) : Gr g a b := ⟨h.os, h.tape, h.output, Nat.le_of_eq h.size, fun i _ hne => h.block i (fun e => hne (by rw [e]))⟩
theorem Kp.gr {a b : World} (h : Kp a b) (g : Nat) : Gr g a b := ⟨h.os, h.tape, h.output, h.size, fun i hi _ => h.block i hi⟩
theorem Gr.kp {g : Nat} {a b c : World} (h : Gr g b c) (hk : Kp a b) (hg : a.heap.size ≤ g) : Kp a c :=
  Below.trans hk ⟨h.os, h.tape, h.output, h.size, fun k hk' => h.block k (Nat.lt_of_lt_of_le hk' hk.size) (fun e => by injection e; omega)⟩
theorem Gr.by {g : Nat} {a b c : World} {row : Option Nat} (h : Gr g a b) (k : b.grownBy c row) (hr : ∀ r, row = some r → a.heap.size ≤ r) : Gr g a c :=
  ⟨k.os.trans h.os, k.tape.trans h.tape, k.output.trans h.output, Nat.le_trans h.size k.size, fun i hi hne => (k.block i (Nat.lt_of_lt_of_le hi h.size) (fun e => by have := hr _ e.symm; omega)).trans (h.block i hi hne)⟩
theorem Blk.by {w w' : World} {r : Nat} {t : TypeId} {cs : Array Value} {row : Option Nat} (h : Blk w r t cs) (hg : w.grownBy w' row) (hne : some r ≠ row) : Blk w' r t cs := (hg.block r h.lt hne).trans h

/-- The tape in block g. -/
structure Tp (w0 w : World) (g : Nat) (at' : Nat) : Prop where
  ex : ∃ ao len cap zs, SlI w0 (.slice ao len cap) zs ∧ Blk w g 25 #[.slice ao len cap, .int .i64 (at' : Nat)]
  kp : Kp w0 w
  ge : w0.heap.size ≤ g
theorem Tp.gr {w0 w w' : World} {g at' r : Nat} (h : Tp w0 w g at') (hg : w.grownBy w' (some r)) (hr : w0.heap.size ≤ r) (hne : g ≠ r) : Tp w0 w' g at' := by
  obtain ⟨ao, len, cap, zs, hs, hb⟩ := h.ex
  exact ⟨⟨ao, len, cap, zs, hs, hb.by hg (fun e => hne (by injection e))⟩, Gr.kp hg h.kp hr, h.ge⟩
theorem Tp.keep {w0 w w' : World} {g at' : Nat} (h : Tp w0 w g at') (hk : Kp w w') : Tp w0 w' g at' := by
  obtain ⟨ao, len, cap, zs, hs, hb⟩ := h.ex
  exact ⟨⟨ao, len, cap, zs, hs, hb.keep hk⟩, Kp.trans h.kp hk, h.ge⟩
theorem Tp.by {w0 w w' : World} {g at' : Nat} {row : Option Nat} (h : Tp w0 w g at') (hg : w.grownBy w' row) (hr : ∀ r, row = some r → w0.heap.size ≤ r ∧ g ≠ r) : Tp w0 w' g at' := by
  obtain ⟨ao, len, cap, zs, hs, hb⟩ := h.ex
  refine ⟨⟨ao, len, cap, zs, hs, hb.by hg (fun e => (hr g e.symm).2 rfl)⟩, ?_, h.ge⟩
  exact Below.grown h.kp hg h.kp.size (fun k hk => (hr k hk).1)

set_option maxRecDepth 100000 in
set_option maxHeartbeats 400000 in
theorem Fold_any (v : Int) (hv : -9223372036854775808 ≤ v ∧ v ≤ 9223372036854775807) (n : Nat) (hn : 2 ≤ n) (hn2 : n ≤ 1000000) (w : World) :
    Calls Tryz.prog 54 #[.int .i64 v, .int .i64 n] w fun e w' => (∃ r : Nat, r < n ∧ e = .returned (.int .i64 r)) ∧ w = w' := by
  obtain ⟨h1, h2⟩ := hv
  by_cases h : v < 0
  · obtain ⟨u, hu⟩ : ∃ u : Nat, v = -(u : Int) := ⟨(-v).toNat, by omega⟩
    subst hu
    have ht : (-(u : Int)).tmod (n : Int) = -((u % n : Nat) : Int) := by rw [Int.neg_tmod, Int.natCast_emod]; rfl
    have hlt : u % n < n := Nat.mod_lt _ (by omega)
    obtain ⟨m, hm⟩ : ∃ m, m = u % n := ⟨_, rfl⟩
    rw [← hm] at ht hlt
    have HT := Lib.hid ht
    clear hm ht
    by_cases h0 : m = 0
    · subst h0
      have ht : (-(u : Int)).tmod (n : Int) = 0 := by rw [HT.out]; rfl
      go_enter Tryz.func54, Tryz.ntmps54
      go_wp2_with fail
      go_ret
      exact ⟨⟨0, by omega, rfl⟩, rfl⟩
    · have ht := HT.out
      go_enter Tryz.func54, Tryz.ntmps54
      go_wp2_with fail
      go_ret
      exact ⟨⟨n - m, by omega, ret_int (by omega)⟩, rfl⟩
  · obtain ⟨u, hu⟩ : ∃ u : Nat, v = (u : Int) := ⟨v.toNat, by omega⟩
    subst hu
    have hlt : u % n < n := Nat.mod_lt _ (by omega)
    have HLT := Lib.hid hlt
    clear hlt
    go_enter Tryz.func54, Tryz.ntmps54
    go_wp2_with fail
    go_ret
    exact ⟨⟨u % n, HLT.out, ret_int (by simp)⟩, rfl⟩

set_option maxRecDepth 100000 in
set_option maxHeartbeats 1000000 in
theorem TNext_any {w0 w : World} {g at' : Nat} (ht : Tp w0 w g at') (ha : at' < 1000000) (n : Nat) (hn : 2 ≤ n) (hn2 : n ≤ 1000000) :
    Calls Tryz.prog 23 #[.pointer (some ⟨g, 0, none⟩), .int .i64 n] w fun e w' => (∃ r : Nat, r < n ∧ e = .returned (.int .i64 r)) ∧ Tp w0 w' g (at' + 1) ∧ Only g w w' := by
  obtain ⟨ao, len, cap, zs, hs, hb⟩ := ht.ex
  obtain ⟨⟨ao', cap', e0, hc, hm, hat⟩, hlt, hsm⟩ := hs
  simp only [Value.slice.injEq] at e0
  obtain ⟨rfl, rfl, rfl⟩ := e0
  have HFIN : Hid (∀ (n1 : Nat) (w1 : World) (A : Int), A = ((at' + 1 : Nat) : Int) → w1 = ((w.drewN n1).setCell ⟨g, 1, none⟩ (.int .i64 A)) → Tp w0 w1 g (at' + 1) ∧ Only g w w1) := by
    intro n1 w1 A hA hw1
    subst hA hw1
    have ho : Only g w ((w.drewN n1).setCell ⟨g, 1, none⟩ (.int .i64 ((at' + 1 : Nat) : Int))) := Only.set (Only.drewN (Only.refl g w) n1) 1 _
    exact ⟨⟨⟨ao, zs.length, cap, zs, ⟨⟨ao, cap, rfl, hc, hm, hat⟩, hlt, hsm⟩, (hb.drewN n1).set 1 _⟩, Only.kp ht.kp ho ht.ge, ht.ge⟩, ho⟩
  have c0 := hb.cell 0 rfl; have c1 := hb.cell 1 rfl; have f1 := hb.free 1
  obtain ⟨len, hlen⟩ : ∃ len, len = zs.length := ⟨_, rfl⟩
  rw [← hlen] at c0 hc hsm
  by_cases hal : at' < len
  · obtain ⟨b, off, rfl, hcell⟩ : ∃ b off, ao = some ⟨b, off, none⟩ ∧ ∀ i : Nat, i < zs.length → w0.cell? ⟨b, off + i, none⟩ = some (.int .i64 (zs[i]?.getD 0)) := by
      rcases hat with h | h
      · rw [h] at hlen; simp at hlen; omega
      · exact h
    have cz := cell_kept (hcell at' (by omega)) ht.kp
    have hz := hlt at'
    obtain ⟨z, ez⟩ : ∃ z, z = zs[at']?.getD 0 := ⟨_, rfl⟩
    rw [← ez] at cz hz
    clear ez hcell hat hlt ht hb hlen hm
    go_enter Tryz.func23, Tryz.ntmps23
    go_wp2_with fail
    go_quiet (fail)
    go_wp2_with fail
    go_quiet (fail)
    go_wp2_with fail
    refine (Fold_any z hz n hn hn2 _).mono ?_
    rintro e w' ⟨⟨r, hr, rfl⟩, rfl⟩
    go_wp2_with fail
    go_ret
    exact ⟨⟨r, hr, rfl⟩, HFIN.out _ _ _ (by omega) rfl⟩
  · clear hat hlt ht hb hlen hm
    go_enter Tryz.func23, Tryz.ntmps23
    go_wp2_with fail
    go_quiet (fail)
    go_wp2_with fail
    refine (Fold_any ((at' : Int) * 7 % 11) (by omega) n hn hn2 _).mono ?_
    rintro e w' ⟨⟨r, hr, rfl⟩, rfl⟩
    go_wp2_with fail
    go_ret
    exact ⟨⟨r, hr, rfl⟩, HFIN.out _ _ _ (by omega) rfl⟩

/-- What is appended to, in memory that was made since w. -/
structure OwG (w wr : World) (v : Value) (zs : List Nat) : Prop where
  owns : wr.ownsRow w.heap.size 5 1 v zs.length (U zs)
  lt : Lt zs
theorem OwG.form {w wr : World} {v : Value} {zs : List Nat} (h : OwG w wr v zs) : ∃ ao cap, v = .slice ao zs.length cap := by
  rcases h.owns.2 with ⟨rfl, h0⟩ | ⟨g, cap, cur, rfl, hb, hg, hnc, hcm, hsz, htake⟩
  · exact ⟨none, 0, by rw [h0]⟩
  · exact ⟨_, cap, rfl⟩
theorem OwG.kept {w wr w1 : World} {v : Value} {zs : List Nat} {g : Nat} (h : OwG w wr v zs) (hg : Gr g wr w1) (hlt : g < w.heap.size) : OwG w w1 v zs := by
  refine ⟨h.owns.kept hg ?_, h.lt⟩
  rcases h.owns.2 with ⟨rfl, _⟩ | ⟨g', cap', cur, rfl, hb', _⟩
  · exact .inl rfl
  · right; intro e; simp [Value.ownBlock] at e; omega
theorem at_one {w : World} {D : Int} {e : TypeId} {d : Nat} (h : D = (d : Int)) : At (w.alloc (.cells #[.int .u8 D] e)) (some ⟨w.heap.size, 0, none⟩) [d] := by
  subst h
  refine .inr ⟨w.heap.size, 0, rfl, fun i hi => ?_⟩
  obtain rfl : i = 0 := by simpa using hi
  rw [cell_of_row _ w.heap.size 0 _ e (0, 0) (heap_alloc_new w _)]
  simp
end By
end Go.Proofs.YtmflgfojicaecaaGreatDoor

/- What every row of this seat needs: an argument that reads as a slice of bytes is one, a law that only reads leaves its arguments. No condition. -/
namespace Go.Proofs.YtmflgfojicaecaaGreatDoor
namespace By
open Go.RowKit Go.ChangeShapes Go.WideShapes WireN
set_option linter.unusedVariables false
set_option linter.unusedSimpArgs false

theorem own : ownKnob Tryz.prog.godebug = none := by kernel_rfl
theorem laidOut : laidOutB Tryz.prog = true := by kernel_rfl
theorem cells8 : Tryz.prog.cellsOf 5 = 1 := by kernel_rfl
theorem bytes8 : Tryz.prog.bytesOf 5 = 1 := by kernel_rfl

set_option maxRecDepth 100000 in
/-- An argument that is a slice of bytes. -/
theorem sl_open {H : Type} {enc : TypeId × Value → H} {W : World} {b0 : Nat} {r : Reach} {t : TypeId} {v : Value} {d : DataW H} {ps : List MemPlace} (ht : Tryz.prog.underlying t = some (.slice 5))
    (hval : Value.okWide Tryz.prog W r b0 t v) (hd : DataW.Trod enc Tryz.prog W 0 (fun _ => true) true t v d ps)
    (hz : ∀ e s, d = .slice e s → (e.length + s.length) * Tryz.prog.bytesOf 5 ≤ reachBytes) : ∃ xs, Sl W v xs := by
  obtain ⟨a0, l0, c0, rfl⟩ := Go.WideShapes.okWide_slice (P := Tryz.prog) (e := 5) ht hval
  obtain ⟨fuel, hf⟩ := hd
  rcases open_ints ht Tryz.underlying5 cells8 hf with ⟨e, -⟩ | ⟨a, len, cap, zs, e, -, hl, hm, hzl, ex, hc, hw⟩
  · simp only [Value.cells, List.cons.injEq, Value.slice.injEq, and_true] at e
    obtain ⟨rfl, rfl, rfl⟩ := e
    exact ⟨[], Sl.nil W⟩
  · simp only [Value.cells, List.cons.injEq, Value.slice.injEq, and_true] at e
    obtain ⟨rfl, rfl, rfl⟩ := e
    simp only [if_true] at hzl
    have hd : d = .slice (lits .u8 (zs.take l0)) (lits .u8 (zs.drop l0)) := congrArg Prod.fst ex
    have h4 := hz _ _ hd
    rw [bytes8] at h4
    have hlen : (lits (H := H) .u8 (zs.take l0)).length + (lits (H := H) .u8 (zs.drop l0)).length = zs.length := by
      simp [lits]; omega
    rw [hlen] at h4
    unfold reachBytes at h4
    have hn : ((zs.take l0).map Int.toNat).length = l0 := by simp; omega
    refine ⟨(zs.take l0).map Int.toNat, ⟨some a, c0, by rw [hn], by omega, hm, ?_, fun h => by simp at h⟩, ?_, by omega⟩
    · by_cases h0 : l0 = 0
      · subst h0; exact .inl (by simp)
      · obtain ⟨b, off, spot⟩ := a
        have hs : spot = none := by
          have h1 := hc 0 (by omega)
          unfold Addr.add at h1
          rw [if_pos rfl] at h1
          unfold World.cell? at h1
          split at h1
          · cases spot with
            | none => rfl
            | some s => simp at h1
          · simp at h1
        subst hs
        refine .inr ⟨b, off, rfl, fun i hi => ?_⟩
        rw [hn] at hi
        have h1 := hc i (by omega)
        have h2 : (⟨b, off, none⟩ : Addr).add i = ⟨b, off + i, none⟩ := by
          unfold Addr.add
          by_cases hi0 : i = 0
          · subst hi0; rfl
          · rw [if_neg hi0]
        rw [h2] at h1
        rw [h1]
        have hi' : i < zs.length := by omega
        have hb := bounds_u8 (hw (zs[i]) (List.getElem_mem hi'))
        have e1 : zs.getD i 0 = zs[i] := by simp [List.getD, hi']
        have e2 : (List.map Int.toNat (List.take l0 zs))[i]?.getD 0 = (zs[i]).toNat := by
          simp [hi, List.getElem?_eq_getElem hi']
        rw [e1, e2, Int.toNat_of_nonneg hb.1]
    · intro x
      by_cases hx : x < ((zs.take l0).map Int.toNat).length
      · rw [List.getElem?_eq_getElem hx, Option.getD_some]
        obtain ⟨z, hz, hzx⟩ := List.mem_map.1 (List.getElem_mem hx)
        rw [← hzx]
        have hb := bounds_u8 (hw z (List.mem_of_mem_take hz))
        omega
      · rw [List.getElem?_eq_none (by omega)]; decide

theorem cellsI : Tryz.prog.cellsOf 3 = 1 := by kernel_rfl
theorem bytesI : Tryz.prog.bytesOf 3 = 8 := by kernel_rfl
set_option maxRecDepth 100000 in
/-- An argument that is a slice of integers. -/
theorem sli_open {H : Type} {enc : TypeId × Value → H} {W : World} {b0 : Nat} {r : Reach} {t : TypeId} {v : Value} {d : DataW H} {ps : List MemPlace} (ht : Tryz.prog.underlying t = some (.slice 3))
    (hval : Value.okWide Tryz.prog W r b0 t v) (hd : DataW.Trod enc Tryz.prog W 0 (fun _ => true) true t v d ps)
    (hz : ∀ e s, d = .slice e s → (e.length + s.length) * Tryz.prog.bytesOf 3 ≤ reachBytes) : ∃ zs, SlI W v zs := by
  obtain ⟨a0, l0, c0, rfl⟩ := Go.WideShapes.okWide_slice (P := Tryz.prog) (e := 3) ht hval
  obtain ⟨fuel, hf⟩ := hd
  rcases open_ints ht Tryz.underlying3 cellsI hf with ⟨e, -⟩ | ⟨a, len, cap, zs, e, -, hl, hm, hzl, ex, hc, hw⟩
  · simp only [Value.cells, List.cons.injEq, Value.slice.injEq, and_true] at e
    obtain ⟨rfl, rfl, rfl⟩ := e
    exact ⟨[], ⟨none, 0, rfl, Nat.le_refl _, Nat.zero_le _, .inl rfl⟩, fun i => by simp, by simp⟩
  · simp only [Value.cells, List.cons.injEq, Value.slice.injEq, and_true] at e
    obtain ⟨rfl, rfl, rfl⟩ := e
    simp only [if_true] at hzl
    have hd : d = .slice (lits .i64 (zs.take l0)) (lits .i64 (zs.drop l0)) := congrArg Prod.fst ex
    have h4 := hz _ _ hd
    rw [bytesI] at h4
    have hlen : (lits (H := H) .i64 (zs.take l0)).length + (lits (H := H) .i64 (zs.drop l0)).length = zs.length := by
      simp [lits]; omega
    rw [hlen] at h4
    unfold reachBytes at h4
    have hn : (zs.take l0).length = l0 := by simp; omega
    refine ⟨zs.take l0, ⟨some a, c0, by rw [hn], by omega, hm, ?_⟩, ?_, by omega⟩
    · by_cases h0 : l0 = 0
      · subst h0; exact .inl (by simp)
      · obtain ⟨b, off, spot⟩ := a
        have hs : spot = none := by
          have h1 := hc 0 (by omega)
          unfold Addr.add at h1
          rw [if_pos rfl] at h1
          unfold World.cell? at h1
          split at h1
          · cases spot with
            | none => rfl
            | some s => simp at h1
          · simp at h1
        subst hs
        refine .inr ⟨b, off, rfl, fun i hi => ?_⟩
        rw [hn] at hi
        have h1 := hc i (by omega)
        rw [Addr_add] at h1
        rw [h1]
        have hi' : i < zs.length := by omega
        have e1 : zs.getD i 0 = zs[i] := by simp [List.getD, hi']
        have e2 : (List.take l0 zs)[i]?.getD 0 = zs[i] := by simp [hi, List.getElem?_eq_getElem hi']
        rw [e1, e2]
    · intro x
      by_cases hx : x < (zs.take l0).length
      · rw [List.getElem?_eq_getElem hx, Option.getD_some]
        exact bounds_i64 (hw _ (List.mem_of_mem_take (List.getElem_mem hx)))
      · rw [List.getElem?_eq_none (by omega)]; decide

/-- Arguments that were there before read behind the call as they did. -/
theorem trodAll_stays {H : Type} {enc : TypeId × Value → H} {W W' : World} (hb : Kp W W') {sp : Nat → Bool} : ∀ {ts : List TypeId} {vs : List Value} {ds : List (DataW H)} {ps : List MemPlace},
    (∀ t ∈ ts, Tryz.prog.readableRec t = true ∧ t < Tryz.prog.types.size) → DataW.TrodAll enc Tryz.prog W 0 (fun _ => true) true ts vs ds ps → (∀ x ∈ ps, x.block < W.heap.size) → (∀ x ∈ ps, sp x.block = true) →
    DataW.TrodAll enc Tryz.prog W' 0 sp true ts vs ds ps
  | [], _, _, _, _, h, _, _ => by
    obtain ⟨rfl, rfl, rfl⟩ := trodAll_nil h
    exact trodAll_mk0
  | t :: ts, _, _, _, ht, h, hlt, hs => by
    obtain ⟨v, vs1, d, ds1, a, b, rfl, rfl, rfl, h1, h2⟩ := trodAll_cons h
    refine ⟨a, b, WideElems.Trod_stays laidOut (ht t (by simp)).1 (ht t (by simp)).2 h1 (fun x hx => hb.same (hlt x (by simp [hx]))) (fun x hx => hs x (by simp [hx])),
      trodAll_stays hb (fun t h => ht t (by simp [h])) h2 (fun x hx => hlt x (by simp [hx])) (fun x hx => hs x (by simp [hx])), rfl⟩

set_option maxRecDepth 100000 in
/-- A law that returns true and leaves what was there: its row's condition after the call. -/
theorem true_post {H : Type} {enc : TypeId × Value → H} {f : Func} {s : ChangeSpec} {apart fresh handsOn again : Bool} {W W' : World} {args : Array Value} {ds gs : List (DataW H)} {before : List MemPlace}
    (hW : DataW.Whole enc Tryz.prog f.params.toList s.vars apart W args.toList ds gs before) (hv : s.vars = []) (hr : f.resultTypes = #[4])
    (hs : (s.fn H (ds ++ gs)).results = [.lit (.bool true)]) (ha : (s.fn H (ds ++ gs)).args = ds) (hvs : (s.fn H (ds ++ gs)).vars = [])
    (ht : ∀ t ∈ f.params.toList, Tryz.prog.readableRec t = true ∧ t < Tryz.prog.types.size) (hb : Kp W W') :
    s.post enc Tryz.prog f apart fresh handsOn again W args (.bool true) W' := by
  have hlt : ∀ p ∈ before, p.block < W.heap.size := fun p hp => hW.lt p hp
  have hW' := hW
  obtain ⟨p, q, hA, hV, rfl, hz, hn⟩ := hW
  rw [hv] at hV
  obtain ⟨rfl, rfl⟩ := trodVars_none hV
  simp only [List.append_nil] at *
  have hres : ∀ (b : Nat) (sp : Nat → Bool) (hd : Bool), DataW.TrodAll enc Tryz.prog W' b sp hd f.resultTypes.toList ((Value.bool true).resultList f.resultTypes.size) (s.fn H ds).results [] := by
    intro b sp hd
    rw [hr, hs]
    exact trodAll_cons_mk (shut_bool Tryz.underlying4 _) trodAll_mk0
  have hargs : ∀ sp : Nat → Bool, (∀ x ∈ p, sp x.block = true) → DataW.TrodAll enc Tryz.prog W' 0 sp true f.params.toList args.toList (s.fn H ds).args p := by
    intro sp hsp
    rw [ha]
    exact trodAll_stays hb ht hA hlt hsp
  have hvars : ∀ sp : Nat → Bool, DataW.TrodVars enc Tryz.prog W' sp s.vars (s.fn H ds).vars [] := by
    intro sp
    rw [hv, hvs]
    exact rfl
  have hold : ∀ x ∈ p, (fun b => decide (b < W.heap.size)) x.block = true := fun x hx => by simpa using hlt x hx
  refine ⟨ds, [], p, [], p, [], hW', by simpa using hres _ _ _, by simpa using hargs _ hold, by simpa using hvars _, World.keptBut_mono (fun x hx => ⟨hx, ?_⟩) (hb.frame (· ∈ p)), fun _ => ?_⟩
  · simpa using hx
  · refine ⟨ok_one hr rfl (Go.RowKit.okWide_bool_mk (P := Tryz.prog) (t := 4) Tryz.underlying4 true), _, _, ([] ++ p) ++ [], ⟨[] ++ p, [], trodAll_append (hargs _ (fun _ _ => rfl)) (hres _ _ _), hvars _, rfl, ?_, ?_⟩, ?_⟩
    · intro b off hp
      have hin : MemPlace.cell b off ∈ p := by simpa using hp
      rw [hb.frozen (hlt _ hin)]
      exact hz b off hin
    · intro h
      simpa using hn h
    · intro x hx _
      simpa using hx
end By
end Go.Proofs.YtmflgfojicaecaaGreatDoor

/- What each row of source needs: the tables that it lists, in memory. Condition: the listed tables hold what the row lists. -/
namespace Go.Proofs.YtmflgfojicaecaaGreatDoor
namespace By
open Go.RowKit WireN LexN SrcN
set_option linter.unusedVariables false
set_option linter.unusedSimpArgs false

theorem tab10_of {l : List (String × DataW Unit)} {W : World} (hf : (l.filter fun x => x.1 == "internal/strconv.uint64pow10") = [("internal/strconv.uint64pow10", Rows.laid_internal_strconv_uint64pow10)]) (h : laidMetH Tryz.prog l W) : Tab10 W := by
  have h1 := h.filter (fun x => x.1 == "internal/strconv.uint64pow10")
  rw [hf] at h1
  have h2 : laidMet Tryz.prog (("internal/strconv.uint64pow10", Lib.tabData .u64 Lib.pow10Tab) :: []) W := h1
  exact Lib.tabIs_of_head (g := 2) (by kernel_rfl) (by kernel_rfl) Tryz.underlying182 Tryz.underlying139 (by kernel_rfl) (by kernel_rfl) h2
/-- The table of operators as listed. -/
def opsL : List (List UInt8 × Int) := [([], 0), ([43], 2), ([45], 2), ([42], 3), ([47], 3), ([37], 3), ([60], 1), ([61, 61], 1)]
theorem opsL_data {H : Type} : (Rows.laid_testgate_source_operators : DataW H) = .agg (opsL.map fun x => .agg [.lit (.string x.1), .lit (.int .i64 x.2)]) := rfl
theorem ops_of {l : List (String × DataW Unit)} {W : World} (hf : (l.filter fun x => x.1 == "testgate/source.operators") = [("testgate/source.operators", Rows.laid_testgate_source_operators)]) (h : laidMetH Tryz.prog l W) : ∀ (i : Nat) (v : Value), opsCells[i]? = some v → W.cell? ⟨0, i, none⟩ = some v := by
  have h1 := h.filter (fun x => x.1 == "testgate/source.operators")
  rw [hf] at h1
  have h2 : laidMet Tryz.prog (("testgate/source.operators", Rows.laid_testgate_source_operators) :: []) W := h1
  obtain ⟨ps, ⟨g', t', cs, fuel, p, q, hg', ht', hvar, hd, _, _⟩, _⟩ := h2
  have hg : Tryz.prog.globalNamed "testgate/source.operators" = some 0 := by kernel_rfl
  have hty : (Tryz.prog.globals[0]?).map (·.type) = some 156 := by kernel_rfl
  obtain rfl := Option.some.inj (hg.symm.trans hg')
  obtain rfl := Option.some.inj (hty.symm.trans ht')
  have hce : Tryz.prog.cellsOf 155 = 2 := by kernel_rfl
  have hcs : Tryz.prog.cellsOf 9 = 1 := by kernel_rfl
  have hci : Tryz.prog.cellsOf 3 = 1 := by kernel_rfl
  obtain ⟨xs, m, -, hx, hl, hxl, hat⟩ := DataW.trod_array Tryz.underlying156 hd
  rw [opsL_data] at hx
  have hxm : opsL.map (fun x => (DataW.agg [.lit (.string x.1), .lit (.int .i64 x.2)] : DataW Unit)) = xs.map (·.1) := by
    have := congrArg Prod.fst hx
    simpa using this
  have key : ∀ (k : Nat) (x : List UInt8 × Int), opsL[k]? = some x → cs.toList[k * 2]? = some (.string ⟨x.1.toArray⟩) ∧ cs.toList[k * 2 + 1]? = some (.int .i64 x.2) := by
    intro k x hk
    have hk8 : k < 8 := (List.getElem?_eq_some_iff.1 hk).1
    have h3 := hat k hk8
    rw [hce] at h3
    have h4 : (xs.map (·.1))[k]? = some (DataW.agg [.lit (.string x.1), .lit (.int .i64 x.2)]) := by rw [← hxm, List.getElem?_map, hk]; rfl
    rw [List.getElem?_map] at h4
    obtain ⟨y, hy, hy1⟩ := Option.map_eq_some_iff.1 h4
    rw [hy] at h3
    obtain ⟨y0, y1, n, rfl, -, e0, e1⟩ := Go.ChangeShapes.trod_struct2 Tryz.underlying155 h3
    simp only [DataW.agg.injEq, List.cons.injEq, and_true] at hy1
    obtain ⟨s, c0, rfl, -⟩ := DataW.trod_string Tryz.underlying9 e0
    obtain ⟨z, c1, rfl, -⟩ := DataW.trod_int Tryz.underlying3 e1
    simp only [DataW.lit.injEq, Lit.string.injEq, Lit.int.injEq, true_and] at hy1
    rw [hcs] at c0
    rw [hci] at c1
    constructor
    · have := congrArg (·[0]?) c0
      simp only [List.getElem?_take, List.getElem?_drop] at this
      simp at this
      rw [Array.getElem?_toList, this, ← hy1.1]
    · have := congrArg (·[0]?) c1
      simp only [List.getElem?_take, List.getElem?_drop] at this
      simp at this
      rw [Array.getElem?_toList, this, ← hy1.2]
  intro i v hv
  have hc := World.var?_cell hg hvar i
  rw [hc, ← Array.getElem?_toList]
  have hi : i < 16 := (List.getElem?_eq_some_iff.1 hv).1
  have k0 := key 0 _ rfl; have k1 := key 1 _ rfl; have k2 := key 2 _ rfl; have k3 := key 3 _ rfl
  have k4 := key 4 _ rfl; have k5 := key 5 _ rfl; have k6 := key 6 _ rfl; have k7 := key 7 _ rfl
  obtain rfl | rfl | rfl | rfl | rfl | rfl | rfl | rfl | rfl | rfl | rfl | rfl | rfl | rfl | rfl | rfl : i = 0 ∨ i = 1 ∨ i = 2 ∨ i = 3 ∨ i = 4 ∨ i = 5 ∨ i = 6 ∨ i = 7 ∨ i = 8 ∨ i = 9 ∨ i = 10 ∨ i = 11 ∨ i = 12 ∨ i = 13 ∨ i = 14 ∨ i = 15 := by omega
  · rw [← hv]; exact k0.1
  · rw [← hv]; exact k0.2
  · rw [← hv]; exact k1.1
  · rw [← hv]; exact k1.2
  · rw [← hv]; exact k2.1
  · rw [← hv]; exact k2.2
  · rw [← hv]; exact k3.1
  · rw [← hv]; exact k3.2
  · rw [← hv]; exact k4.1
  · rw [← hv]; exact k4.2
  · rw [← hv]; exact k5.1
  · rw [← hv]; exact k5.2
  · rw [← hv]; exact k6.1
  · rw [← hv]; exact k6.2
  · rw [← hv]; exact k7.1
  · rw [← hv]; exact k7.2
theorem glob_of {l : List (String × DataW Unit)} {W : World} (hf : (l.filter fun x => x.1 == "testgate/source.operators") = [("testgate/source.operators", Rows.laid_testgate_source_operators)]) (h : laidMetH Tryz.prog l W) (hm : MX W) : Glob W := ⟨hm, ops_of hf h⟩
end By
end Go.Proofs.YtmflgfojicaecaaGreatDoor
