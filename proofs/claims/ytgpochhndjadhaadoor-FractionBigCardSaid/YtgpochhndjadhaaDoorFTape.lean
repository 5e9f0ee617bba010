/- The tape of small numbers that the laws draw from: Fold, Next. Conditions: the tape lies in memory as it is named, and has been read fewer than a million times. -/
import Derived.Test.YtgpochhndjadhaaDoorMCa
import Derived.IntWalk
import Derived.Laws.BitsAllLaws
import Derived.Laws.BitsLemmas
namespace Go.Proofs.YtgpochhndjadhaaDoor
open Go.RowKit LimbN
set_option linter.unusedVariables false
set_option linter.unusedSimpArgs false

theorem cellK {w w' : World} {a : Addr} {v : Value} (h : w.cell? a = some v) (hk : Kp w w') : w'.cell? a = some v := (hk.cell (World.block_lt_of_cell? w a h)).trans h
/-- Block g is just these cells. -/
def Blk (w : World) (g : Nat) (t : TypeId) (cs : Array Value) : Prop := w.heap[g]? = some (.cells cs t (0, 0))
theorem Blk.cell {w : World} {g : Nat} {t : TypeId} {cs : Array Value} (h : Blk w g t cs) (i : Nat) {v : Value} (hv : cs[i]? = some v) : w.cell? ⟨g, i, none⟩ = some v := (cell_of_row w g i cs t (0, 0) h).trans hv
theorem Blk.free {w : World} {g : Nat} {t : TypeId} {cs : Array Value} (h : Blk w g t cs) (i : Nat) : w.frozen? ⟨g, i, none⟩ = false := frozen_of_row w g i _ t h
theorem Blk.lt {w : World} {g : Nat} {t : TypeId} {cs : Array Value} (h : Blk w g t cs) : g < w.heap.size := lt_of_block h
theorem Blk.new (w : World) (t : TypeId) (cs : Array Value) : Blk (w.alloc (.cells cs t)) w.heap.size t cs := heap_alloc_new w _
theorem Blk.keep {w w' : World} {g : Nat} {t : TypeId} {cs : Array Value} (h : Blk w g t cs) (hk : Kp w w') : Blk w' g t cs := (hk.block g h.lt).trans h
theorem Blk.other {w w' : World} {g g' : Nat} {t : TypeId} {cs : Array Value} (h : Blk w g t cs) (ho : Only g' w w') (hne : g ≠ g') : Blk w' g t cs := (ho.block g hne).trans h
theorem Blk.drewN {w : World} {g : Nat} {t : TypeId} {cs : Array Value} (h : Blk w g t cs) (n : Nat) : Blk (w.drewN n) g t cs := h
theorem Blk.set {w : World} {g : Nat} {t : TypeId} {cs : Array Value} (h : Blk w g t cs) (i : Nat) (u : Value) : Blk (w.setCell ⟨g, i, none⟩ u) g t (cs.setIfInBounds i u) := heap_setCell_same w g i _ t u h

/-- A slice that reads as 64-bit integers. -/
def AtI (w : World) (ao : Option Addr) (zs : List Int) : Prop :=
  zs = [] ∨ ∃ b off, ao = some ⟨b, off, none⟩ ∧ ∀ i : Nat, i < zs.length → w.cell? ⟨b, off + i, none⟩ = some (.int .i64 (zs[i]?.getD 0))
structure SlI (w : World) (v : Value) (zs : List Int) : Prop where
  ex : ∃ ao cap, v = .slice ao zs.length cap ∧ zs.length ≤ cap ∧ cap ≤ maxLen ∧ AtI w ao zs
  lt : ∀ i : Nat, -9223372036854775808 ≤ zs[i]?.getD 0 ∧ zs[i]?.getD 0 ≤ 9223372036854775807
  sm : zs.length ≤ 17592186044416
theorem AtI.keep {w w' : World} {ao : Option Addr} {zs : List Int} (h : AtI w ao zs) (hk : Kp w w') : AtI w' ao zs := by
  rcases h with rfl | ⟨b, off, rfl, h⟩
  · exact .inl rfl
  · exact .inr ⟨b, off, rfl, fun i hi => cellK (h i hi) hk⟩
theorem SlI.keep {w w' : World} {v : Value} {zs : List Int} (h : SlI w v zs) (hk : Kp w w') : SlI w' v zs := by
  obtain ⟨⟨ao, cap, h1, h2, h3, h4⟩, hl, hs⟩ := h
  exact ⟨⟨ao, cap, h1, h2, h3, h4.keep hk⟩, hl, hs⟩

/-- Only block g has changed, and new memory was made. -/
abbrev Gr (g : Nat) (w w' : World) : Prop := w.grownBy w' (some g)
theorem Gr.refl (g : Nat) (w : World) : Gr g w w := World.grownBy.refl w _
theorem Gr.trans {g : Nat} {a b c : World} (h : Gr g a b) (k : Gr g b c) : Gr g a c :=
  ⟨k.os.trans h.os, k.tape.trans h.tape, k.output.trans h.output, Nat.le_trans h.size k.size, fun i hi hne => (k.block i (Nat.lt_of_lt_of_le hi h.size) hne).trans (h.block i hi hne)⟩
theorem Only.gr {g : Nat} {a b : World} (h : Only g a b) : Gr g a b := ⟨h.os, h.tape, h.output, Nat.le_of_eq h.size, fun i _ hne => h.block i (fun e => hne (by rw [e]))⟩
theorem Kp.gr {a b : World} (h : Kp a b) (g : Nat) : Gr g a b := ⟨h.os, h.tape, h.output, h.size, fun i hi _ => h.block i hi⟩
theorem Gr.kp {g : Nat} {a b c : World} (h : Gr g b c) (hk : Kp a b) (hg : a.heap.size ≤ g) : Kp a c :=
  Below.trans hk ⟨h.os, h.tape, h.output, h.size, fun k hk' => h.block k (Nat.lt_of_lt_of_le hk' hk.size) (fun e => by injection e; omega)⟩
theorem Gr.by {g : Nat} {a b c : World} {row : Option Nat} (h : Gr g a b) (k : b.grownBy c row) (hr : ∀ r, row = some r → a.heap.size ≤ r) : Gr g a c :=
  ⟨k.os.trans h.os, k.tape.trans h.tape, k.output.trans h.output, Nat.le_trans h.size k.size, fun i hi hne => (k.block i (Nat.lt_of_lt_of_le hi h.size) (fun e => by have := hr _ e.symm; omega)).trans (h.block i hi hne)⟩
theorem Blk.by {w w' : World} {r : Nat} {t : TypeId} {cs : Array Value} {row : Option Nat} (h : Blk w r t cs) (hg : w.grownBy w' row) (hne : some r ≠ row) : Blk w' r t cs := (hg.block r h.lt hne).trans h

set_option maxRecDepth 100000 in
set_option maxHeartbeats 400000 in
theorem Fold_any (v : Int) (hv : -9223372036854775808 ≤ v ∧ v ≤ 9223372036854775807) (n : Nat) (hn : 2 ≤ n) (hn2 : n ≤ 1000000) (w : World) :
    Calls Tryd.prog 4 #[.int .i64 v, .int .i64 n] w fun e w' => (∃ r : Nat, r < n ∧ e = .returned (.int .i64 r)) ∧ w = w' := by
  obtain ⟨h1, h2⟩ := hv
  by_cases h : v < 0
  · obtain ⟨u, hu⟩ : ∃ u : Nat, v = -(u : Int) := ⟨(-v).toNat, by omega⟩
    subst hu
    have ht : (-(u : Int)).tmod (n : Int) = -((u % n : Nat) : Int) := by rw [Int.neg_tmod, Int.natCast_emod]; rfl
    have hlt : u % n < n := Nat.mod_lt _ (by omega)
    obtain ⟨m, hm⟩ : ∃ m, m = u % n := ⟨_, rfl⟩
    rw [← hm] at ht hlt
    have HT := Lib.hid ht
    clear hm ht
    by_cases h0 : m = 0
    · subst h0
      have ht : (-(u : Int)).tmod (n : Int) = 0 := by rw [HT.out]; rfl
      go_enter Tryd.func4, Tryd.ntmps4
      go_wp2_with fail
      go_ret
      exact ⟨⟨0, by omega, rfl⟩, rfl⟩
    · have ht := HT.out
      go_enter Tryd.func4, Tryd.ntmps4
      go_wp2_with fail
      go_ret
      exact ⟨⟨n - m, by omega, ret_int (by omega)⟩, rfl⟩
  · obtain ⟨u, hu⟩ : ∃ u : Nat, v = (u : Int) := ⟨v.toNat, by omega⟩
    subst hu
    have hlt : u % n < n := Nat.mod_lt _ (by omega)
    have HLT := Lib.hid hlt
    clear hlt
    go_enter Tryd.func4, Tryd.ntmps4
    go_wp2_with fail
    go_ret
    exact ⟨⟨u % n, HLT.out, ret_int (by simp)⟩, rfl⟩

theorem Fold_one (v : Int) (w : World) : Calls Tryd.prog 4 #[.int .i64 v, .int .i64 1] w fun e w' => e = .returned (.int .i64 0) ∧ w = w' := by
  go_enter Tryd.func4, Tryd.ntmps4
  go_wp2_with fail
  go_ret
  exact ⟨rfl, rfl⟩
theorem Fold_pos (v : Int) (hv : -9223372036854775808 ≤ v ∧ v ≤ 9223372036854775807) (n : Nat) (hn : 1 ≤ n) (hn2 : n ≤ 1000000) (w : World) :
    Calls Tryd.prog 4 #[.int .i64 v, .int .i64 n] w fun e w' => (∃ r : Nat, r < n ∧ e = .returned (.int .i64 r)) ∧ w = w' := by
  rcases Nat.lt_or_ge n 2 with h | h
  · obtain rfl : n = 1 := by omega
    exact (Fold_one v w).mono fun e w' hq => ⟨⟨0, by omega, hq.1⟩, hq.2⟩
  · exact Fold_any v hv n h hn2 w
end Go.Proofs.YtgpochhndjadhaaDoor
