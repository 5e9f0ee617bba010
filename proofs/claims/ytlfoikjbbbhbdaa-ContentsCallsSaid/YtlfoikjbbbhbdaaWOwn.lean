/- Bytes in memory of the call's own: append, and what stays. No condition. -/
import Derived.Test.YtlfoikjbbbhbdaaWBase
import Derived.Laws.BitsAllLaws
import Derived.Laws.BitsLemmas
import Derived.IntWalk
namespace Go.Proofs.Ytlfoikjbbbhbdaa
namespace By
open Go.RowKit WireN
set_option linter.unusedVariables false
set_option linter.unusedSimpArgs false

structure Own (w wr : World) (v : Value) (zs : List Nat) : Prop where
  owns : wr.ownsRow w.heap.size 5 1 v zs.length (U zs)
  lt : Lt zs
  kp : Kp w wr
theorem Own.start (w : World) : Own w w (.slice none 0 0) [] := ⟨World.ownsRow_nil _ _ _ _, Lt.nil, Kp.refl _⟩
theorem Own.keep {w wr w1 : World} {v : Value} {zs : List Nat} (h : Own w wr v zs) (hk : Kp wr w1) : Own w w1 v zs := by
  refine ⟨⟨h.owns.1, ?_⟩, h.lt, Kp.trans h.kp hk⟩
  rcases h.owns.2 with hn | ⟨g, cap, cur, e, hb, hg, r⟩
  · exact .inl hn
  · exact .inr ⟨g, cap, cur, e, hb, by rw [hk.block g (lt_of_block hg)]; exact hg, r⟩
theorem Own.sl {w wr : World} {v : Value} {zs : List Nat} (h : Own w wr v zs) (hs : zs.length ≤ 140737488355328) : Sl wr v zs := (sl_of_owns h.owns h.lt hs).1
theorem Own.new {w wr : World} {v : Value} {zs : List Nat} (h : Own w wr v zs) (hs : zs.length ≤ 140737488355328) : New w.heap.size v := (sl_of_owns h.owns h.lt hs).2
theorem Own.form {w wr : World} {v : Value} {zs : List Nat} (h : Own w wr v zs) : ∃ ao cap, v = .slice ao zs.length cap ∧ zs.length ≤ cap ∧ cap ≤ maxLen := by
  rcases h.owns.2 with ⟨rfl, h0⟩ | ⟨g, cap, cur, rfl, hb, hg, hnc, hcm, hsz, htake⟩
  · exact ⟨none, 0, by rw [h0], by omega, Nat.zero_le _⟩
  · exact ⟨_, cap, rfl, hnc, hcm⟩
theorem Own.base {w0 w wr : World} {v : Value} {zs : List Nat} (h : Own w wr v zs) (hk : Kp w0 w) : Own w0 wr v zs := by
  refine ⟨⟨h.owns.1, ?_⟩, h.lt, Kp.trans hk h.kp⟩
  rcases h.owns.2 with hn | ⟨g, cap, cur, e, hb, hg, r⟩
  · exact .inl hn
  · exact .inr ⟨g, cap, cur, e, Nat.le_trans hk.size hb, hg, r⟩
theorem kp_alloc (w : World) (o : Obj) : Kp w (w.alloc o) := Kp.alloc (Kp.refl w) o
theorem sl_of_at {w : World} {ao : Option Addr} {n cap : Nat} {xs : List Nat} (h : At w ao xs) (hl : Lt xs) (hn : xs.length = n) (hc : n ≤ cap) (hm : cap ≤ 140737488355328) (hno : ao = none → cap = 0) : Sl w (.slice ao n cap) xs := by
  subst hn
  exact ⟨⟨ao, cap, rfl, hc, by unfold maxLen; omega, h, hno⟩, hl, by omega⟩
theorem sl_new {w : World} {e : TypeId} {cs : Array Value} (xs : List Nat) (hl : Lt xs) (hc : cs = (U xs).toArray) (n : Nat) (hn : xs.length = n) (hs : n ≤ 140737488355328) : Sl (w.alloc (.cells cs e)) (.slice (some ⟨w.heap.size, 0, none⟩) n n) xs := by
  subst hc
  refine sl_of_at ?_ hl hn (Nat.le_refl _) hs (fun h => nomatch h)
  refine .inr ⟨w.heap.size, 0, rfl, fun i hi => ?_⟩
  rw [Nat.zero_add, cell_of_row _ w.heap.size i _ e (0, 0) (heap_alloc_new w _)]
  simp [U, List.getElem?_eq_getElem hi]
theorem sl_one {w : World} {D : Int} {e : TypeId} {d : Nat} (h : D = (d : Int)) (hd : d < 256) : Sl (w.alloc (.cells #[.int .u8 D] e)) (.slice (some ⟨w.heap.size, 0, none⟩) 1 1) [d] := by
  subst h
  exact sl_new [d] (Lt.one hd) rfl 1 rfl (by omega)
/-- append of bytes to a slice of the call's own. -/
theorem wpList_ap {w wx : World} {ops : Array Oper} {rest : List Oper} {o : Oper} {a : Act} {Q : Exit → Act → World → Prop} (hgd : o.guard = none) (s x : Operand) (t : TypeId)
    (ho : o.op = .call { callee := .builtin .append, args := #[s, x], argTypes := #[t, t] }) (ht : Try.prog.underlying t = some (.slice 5))
    (v vs : Value) (zs ys : List Nat) (hs : a.eval s = v) (hx : a.eval x = vs) (hown : Own w wx v zs) (hsl : Sl wx vs ys) (hsum : zs.length + ys.length ≤ 140737488355328)
    (h : ∀ v' w', Own w w' v' (zs ++ ys) → wpList Try.prog ops Q rest (a.put o.dst v') w') : wpList Try.prog ops Q (o :: rest) a wx := by
  obtain ⟨⟨ao, cap, rfl, h2, h3, h4, h5⟩, hl, hsm⟩ := hsl
  refine wpList_app hgd s x t ho ht w.heap.size v zs.length zs hs hown.owns ao ys.length cap ys hx rfl h4 h5 hsum hown.kp.size (fun v' w' h1 hg => h v' w' ⟨by rw [List.length_append]; exact h1, hown.lt.append hl, ?_⟩)
  exact Below.grown hown.kp hg hown.kp.size (fun k hk => (hown.owns.lt k hk).1)

theorem cell_kept {w w' : World} {a : Addr} {v : Value} (h : w.cell? a = some v) (hk : Kp w w') : w'.cell? a = some v := (hk.cell (World.block_lt_of_cell? w a h)).trans h
theorem kp_drew (w : World) : Kp w w.drew := Kp.drewN w 1
/-- A list of bytes of the call's own, and where it lies. -/
theorem Own.parts {w wr : World} {v : Value} {zs : List Nat} (h : Own w wr v zs) (hk : 0 < zs.length) :
    ∃ g cap cur, v = .slice (some ⟨g, 0, none⟩) zs.length cap ∧ w.heap.size ≤ g ∧ zs.length ≤ cap ∧ cap ≤ maxLen ∧ wr.heap[g]? = some (.cells cur 5 (0, 0)) ∧ cur.size = cap ∧ cur.toList.take zs.length = U zs := by
  rcases h.owns.2 with ⟨_, h0⟩ | ⟨g, cap, cur, rfl, hb, hg, hnc, hcm, hsz, htake⟩
  · omega
  · exact ⟨g, cap, cur, rfl, hb, hnc, hcm, hg, by rw [hsz, Nat.mul_one], by rw [Nat.mul_one] at htake; exact htake⟩
/-- Block g is just these cells. -/
def Blk (w : World) (g : Nat) (t : TypeId) (cs : Array Value) : Prop := w.heap[g]? = some (.cells cs t (0, 0))
theorem Blk.cell {w : World} {g : Nat} {t : TypeId} {cs : Array Value} (h : Blk w g t cs) (i : Nat) {v : Value} (hv : cs[i]? = some v) : w.cell? ⟨g, i, none⟩ = some v := (cell_of_row w g i cs t (0, 0) h).trans hv
theorem Blk.free {w : World} {g : Nat} {t : TypeId} {cs : Array Value} (h : Blk w g t cs) (i : Nat) : w.frozen? ⟨g, i, none⟩ = false := frozen_of_row w g i _ t h
theorem Blk.lt {w : World} {g : Nat} {t : TypeId} {cs : Array Value} (h : Blk w g t cs) : g < w.heap.size := lt_of_block h
theorem Blk.new (w : World) (t : TypeId) (cs : Array Value) : Blk (w.alloc (.cells cs t)) w.heap.size t cs := heap_alloc_new w _
theorem Blk.keep {w w' : World} {g : Nat} {t : TypeId} {cs : Array Value} (h : Blk w g t cs) (hk : Kp w w') : Blk w' g t cs := (hk.block g h.lt).trans h
theorem Blk.other {w w' : World} {g g' : Nat} {t : TypeId} {cs : Array Value} (h : Blk w g t cs) (ho : Only g' w w') (hne : g ≠ g') : Blk w' g t cs := (ho.block g hne).trans h
theorem Blk.drewN {w : World} {g : Nat} {t : TypeId} {cs : Array Value} (h : Blk w g t cs) (n : Nat) : Blk (w.drewN n) g t cs := h
theorem Blk.set {w : World} {g : Nat} {t : TypeId} {cs : Array Value} (h : Blk w g t cs) (i : Nat) (u : Value) : Blk (w.setCell ⟨g, i, none⟩ u) g t (cs.setIfInBounds i u) := heap_setCell_same w g i _ t u h

theorem or128 (a : Nat) (h : a < 256) : bits .or .u8 (a : Int) 128 = ((a % 128 + 128 : Nat) : Int) := by
  have key : ∀ a : Fin 256, bits .or .u8 (a.val : Int) 128 = ((a.val % 128 + 128 : Nat) : Int) := by decide +kernel
  exact key ⟨a, h⟩
theorem andNot128 (a : Nat) (h : a < 256) : bits .andNot .u8 (a : Int) 128 = ((a % 128 : Nat) : Int) := by
  have key : ∀ a : Fin 256, bits .andNot .u8 (a.val : Int) 128 = ((a.val % 128 : Nat) : Int) := by decide +kernel
  exact key ⟨a, h⟩
theorem u64_toNat (a : Nat) (h : a < 18446744073709551616) : (BitVec.ofInt 64 (a : Int)).toNat = a := by
  rw [BitVec.ofInt_natCast, BitVec.toNat_ofNat]; exact Nat.mod_eq_of_lt (by omega)
theorem u64_or (a b : Nat) (ha : a < 18446744073709551616) (hb : b < 18446744073709551616) : bits .or .u64 (a : Int) (b : Int) = ((a ||| b : Nat) : Int) := by
  have hx : a ||| b < 2 ^ 64 := Nat.or_lt_two_pow (by omega) (by omega)
  show IntKind.u64.wrap ((BitVec.ofInt 64 (a : Int) ||| BitVec.ofInt 64 (b : Int)).toNat : Int) = _
  rw [BitVec.toNat_or, u64_toNat a ha, u64_toNat b hb]
  show ((a ||| b : Nat) : Int) % 18446744073709551616 = _
  omega
theorem u64_or_one (a : Nat) (ha : a < 18446744073709551616) (h2 : a % 2 = 0) : bits .or .u64 (a : Int) 1 = ((a + 1 : Nat) : Int) := by
  have h := u64_or a 1 ha (by omega)
  have e : a ||| 1 = a + 1 := by
    have := Nat.two_pow_add_eq_or_of_lt (b := 1) (i := 1) (by omega) (a / 2)
    rw [show 2 ^ 1 * (a / 2) = a by omega] at this
    exact this.symm
  rw [e] at h
  exact h
theorem u64_and_one (a : Nat) (ha : a < 18446744073709551616) : bits .and .u64 (a : Int) 1 = ((a % 2 : Nat) : Int) := by
  have h1 : bits .and .u64 (a : Int) ((1 : Nat) : Int) = ((a &&& 1 : Nat) : Int) := by
    have hx : a &&& 1 < 2 ^ 64 := Nat.and_lt_two_pow _ (by omega)
    show IntKind.u64.wrap ((BitVec.ofInt 64 (a : Int) &&& BitVec.ofInt 64 ((1 : Nat) : Int)).toNat : Int) = _
    rw [BitVec.toNat_and, u64_toNat a ha, u64_toNat 1 (by omega)]
    show ((a &&& 1 : Nat) : Int) % 18446744073709551616 = _
    omega
  rw [Nat.and_one_is_mod] at h1
  exact h1
theorem i64_not (x : Int) (h : -9223372036854775808 ≤ x ∧ x ≤ 9223372036854775807) : bits .xor .i64 (-1) x = -1 - x := by
  have e : BitVec.ofInt 64 (-1) = BitVec.allOnes 64 := by decide
  show IntKind.i64.wrap ((BitVec.ofInt 64 (-1) ^^^ BitVec.ofInt 64 x).toNat : Int) = _
  rw [e, BitVec.allOnes_xor, BitVec.toNat_not, BitVec.toNat_ofInt, IntKind.wrap_i64]
  omega
end By
end Go.Proofs.Ytlfoikjbbbhbdaa
