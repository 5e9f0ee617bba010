/- A map from bytes to small numbers of the call's own; the program's kindsOfBytes. No condition. -/
import Derived.Test.YtifhbbjalodplaaDoorLNum
import Derived.Maps.Own
import Derived.Maps.OwnOps
import Derived.Maps.Views
namespace Go.Proofs.YtifhbbjalodplaaDoor
namespace By
open Go.RowKit WireN LexN
set_option linter.unusedVariables false
set_option linter.unusedSimpArgs false

/-- The kind of a byte: what begins with it. -/
def kd (c : Nat) : Nat := if LexN.blank c = true then 1 else if c = 35 then 2 else if letter c = true then 3 else if digit c = true then 4 else if c = 34 then 5 else if sgn c = true then 6 else 0
/-- Block b is a map of at most n entries that has f c at each byte c. -/
structure KM (w : World) (b n : Nat) (f : Nat → Nat) : Prop where
  ex : ∃ D : DataW Unit, w.ownsMap Tryd.prog 5 (plainElem Tryd.prog 3) b n D ∧ Go.Maps.IsMap D ∧ ∀ c : Nat, c < 256 → D.atKey (.int .u8 (c : Nat)) (.lit (.int .i64 0)) = .lit (.int .i64 (f c : Nat))
def upd (f : Nat → Nat) (k d : Nat) : Nat → Nat := fun c => if c = k then d else f c
theorem KM.made (w : World) : KM (w.alloc (.map #[] 0)) w.heap.size 0 (fun _ => 0) :=
  ⟨.map [], World.ownsMap_made w _ _ _, ⟨[], rfl⟩, fun c _ => rfl⟩
theorem KM.kept {w w' : World} {b n : Nat} {f : Nat → Nat} {row : Option Nat} (h : KM w b n f) (hg : w.grownBy w' row) (hne : some b ≠ row) : KM w' b n f := by
  obtain ⟨D, h1, h2, h3⟩ := h
  exact ⟨D, h1.kept hg hne, h2, h3⟩
theorem KM.keep {w w' : World} {b n : Nat} {f : Nat → Nat} (h : KM w b n f) (hk : Kp w w') : KM w' b n f :=
  h.kept (row := none) ⟨hk.os, hk.tape, hk.output, hk.size, fun i hi _ => hk.block i hi⟩ (by simp)
theorem KM.mono {w : World} {b n m : Nat} {f : Nat → Nat} (h : KM w b n f) (hn : n ≤ m) : KM w b m f := by
  obtain ⟨D, h1, h2, h3⟩ := h
  exact ⟨D, h1.mono hn, h2, h3⟩
theorem KM.of {w : World} {b n : Nat} {f g : Nat → Nat} (h : KM w b n f) (hfg : ∀ c, c < 256 → f c = g c) : KM w b n g := by
  obtain ⟨D, h1, h2, h3⟩ := h
  exact ⟨D, h1, h2, fun c hc => by rw [h3 c hc, hfg c hc]⟩
theorem law8 : Go.Maps.Keyed Tryd.prog 5 := Go.Maps.int_keyed Tryd.underlying5
theorem zeroI (w : World) : (zeroValue 3).run Tryd.prog w = .ok (.int .i64 0) w := Tryd.zeroValue3 w
theorem wf8 {k : Nat} (hk : k < 256) : (Lit.int .u8 (k : Nat)).wf = true := by
  have key : ∀ k : Fin 256, (Lit.int .u8 (k.val : Nat)).wf = true := by decide +kernel
  exact key ⟨k, hk⟩
theorem wfI {d : Nat} (hd : d < 10) : (Lit.int .i64 (d : Nat)).wf = true := by
  have key : ∀ k : Fin 10, (Lit.int .i64 (k.val : Nat)).wf = true := by decide +kernel
  exact key ⟨d, hd⟩
theorem KM.put {w : World} {b n : Nat} {f : Nat → Nat} (h : KM w b n f) (hn : n < 100000) {k d : Nat} (hk : k < 256) (hd : d < 10) :
    ∃ w', (Instr.mapUpdate 48 (.map (some b)) (.int .u8 (k : Nat)) (.int .i64 (d : Nat))).run Tryd.prog w = .ok () w' ∧ KM w' b (n + 1) (upd f k d) ∧ w.grownBy w' (some b) := by
  obtain ⟨D, h1, h2, h3⟩ := h
  obtain ⟨w', hr, ho, hg⟩ := h1.update law8 Tryd.underlying48 (by unfold maxLen; omega) (Go.Maps.keyOf_int_mk Tryd.underlying5 (wf8 hk)) (plainElem_int (H := Unit) Tryd.underlying3 (wfI hd))
  refine ⟨w', hr, ⟨_, ho, ?_, fun c hc => ?_⟩, hg⟩
  · obtain ⟨es, rfl⟩ := h2
    exact ⟨_, rfl⟩
  · unfold upd
    by_cases hck : c = k
    · subst hck
      rw [if_pos rfl, Go.Maps.atKey_put_same h2 (by trivial)]
    · rw [if_neg hck, Go.Maps.atKey_put_other (fun e => hck (by injection e with e1 e2; omega)), h3 c hc]
theorem wpList_upd {w : World} {ops : Array Oper} {rest : List Oper} {o : Oper} {a : Act} {Q : Exit → Act → World → Prop} (hg : o.guard = none) (m x v : Operand) (hop : o.op = Op.mapUpdate 48 m x v)
    {b n : Nat} {f : Nat → Nat} (hm : a.eval m = .map (some b)) (h : KM w b n f) (hn : n < 100000) (k : Nat) (hk : k < 256) (d : Nat) (hd : d < 10) (hx : a.eval x = .int .u8 (k : Nat)) (hv : a.eval v = .int .i64 (d : Nat))
    (hK : ∀ w', KM w' b (n + 1) (upd f k d) → w.grownBy w' (some b) → wpList Tryd.prog ops Q rest (a.put o.dst undef) w') : wpList Tryd.prog ops Q (o :: rest) a w := by
  refine wpList_plain hg fun K' hK' => ?_
  obtain ⟨w', hrun, r1, r2⟩ := h.put hn hk hd
  unfold Oper.wp
  simp [execOp, hop, hm, hx, hv, hrun, Result.andThen]
  exact hK' _ _ (hK w' r1 r2)
theorem wpList_ins {w : World} {ops : Array Oper} {rest : List Oper} {o : Oper} {a : Act} {Q : Exit → Act → World → Prop} (hg : o.guard = none) (m x v : Operand) (hop : o.op = Op.insert 48 m x v)
    {b n : Nat} {f : Nat → Nat} (hm : a.eval m = .map (some b)) (h : KM w b n f) (hn : n < 100000) (k : Nat) (hk : k < 256) (d : Nat) (hd : d < 10) (hx : a.eval x = .int .u8 (k : Nat)) (hv : a.eval v = .int .i64 (d : Nat))
    (hK : ∀ w', KM w' b (n + 1) (upd f k d) → w.grownBy w' (some b) → wpList Tryd.prog ops Q rest (a.put o.dst undef) w') : wpList Tryd.prog ops Q (o :: rest) a w := by
  refine wpList_plain hg fun K' hK' => ?_
  obtain ⟨w', hrun, r1, r2⟩ := h.put hn hk hd
  unfold Oper.wp
  simp [execOp, hop, hm, hx, hv, hrun, Result.andThen]
  exact hK' _ _ (hK w' r1 r2)
/-- What is found in the map. -/
theorem KM.get {w : World} {b n : Nat} {f : Nat → Nat} (h : KM w b n f) {c : Nat} (hc : c < 256) : (Instr.lookup 48 (.map (some b)) (.int .u8 (c : Nat)) false).run Tryd.prog w = .ok (.int .i64 (f c : Nat)) w := by
  obtain ⟨D, h1, h2, h3⟩ := h
  obtain ⟨x, hr, hx, -⟩ := h1.lookup_int law8 Tryd.underlying48 Tryd.underlying3 (zeroI w) (Go.Maps.keyOf_int_mk Tryd.underlying5 (wf8 hc))
  rw [h3 c hc] at hx
  injection hx with hx
  injection hx with e1 e2
  rw [hr, e2]
theorem grown_kp {a b c : World} {g : Nat} (hk : Kp a b) (h : b.grownBy c (some g)) (hg : a.heap.size ≤ g) : Kp a c :=
  Below.grown hk h hk.size (fun k hk => by injection hk with hk; omega)
def k0 : Nat → Nat := upd (upd (upd (upd (upd (upd (fun _ => 0) 9 1) 10 1) 13 1) 32 1) 35 2) 34 5
def k1 (k : Nat) : Nat → Nat := fun c => if 97 ≤ c ∧ c < k then 3 else k0 c
def k2 (k : Nat) : Nat → Nat := fun c => if 48 ≤ c ∧ c < k then 4 else k1 123 c
def k3 (k : Nat) : Nat → Nat := fun c => if (signs.take k).contains c = true then 6 else k2 58 c
theorem k1_start : k1 97 = k0 := by funext c; simp only [k1]; rw [if_neg (by omega)]
theorem k1_step {k : Nat} (h : 97 ≤ k) : upd (k1 k) k 3 = k1 (k + 1) := by
  funext c
  simp only [upd, k1]
  by_cases h1 : c = k
  · subst h1; rw [if_pos rfl, if_pos (by omega)]
  · rw [if_neg h1]
    by_cases h2 : 97 ≤ c ∧ c < k
    · rw [if_pos h2, if_pos (by omega)]
    · rw [if_neg h2, if_neg (by omega)]
theorem k2_start : k2 48 = k1 123 := by funext c; simp only [k2]; rw [if_neg (by omega)]
theorem k2_step {k : Nat} (h : 48 ≤ k) : upd (k2 k) k 4 = k2 (k + 1) := by
  funext c
  simp only [upd, k2]
  by_cases h1 : c = k
  · subst h1; rw [if_pos rfl, if_pos (by omega)]
  · rw [if_neg h1]
    by_cases h2 : 48 ≤ c ∧ c < k
    · rw [if_pos h2, if_pos (by omega)]
    · rw [if_neg h2, if_neg (by omega)]
theorem k3_start : k3 0 = k2 58 := by funext c; simp [k3]
theorem k3_step {k : Nat} (h : k < 11) : upd (k3 k) (at' signs k) 6 = k3 (k + 1) := by
  funext c
  simp only [upd, k3]
  have e : signs.take (k + 1) = signs.take k ++ [at' signs k] := by
    rw [List.take_succ_eq_append_getElem (show k < signs.length from h)]
    congr 2
    simp [at', show k < signs.length from h]
  rw [e]
  by_cases h1 : c = at' signs k
  · rw [if_pos h1, if_pos (by simp [h1])]
  · rw [if_neg h1]
    have : (signs.take k ++ [at' signs k]).contains c = (signs.take k).contains c := by simp [h1]
    rw [this]
theorem k3_all : ∀ c, c < 256 → k3 11 c = kd c := by
  intro c hc
  have key : ∀ c : Fin 256, k3 11 c.val = kd c.val := by decide +kernel
  exact key ⟨c, hc⟩
end By
end Go.Proofs.YtifhbbjalodplaaDoor
