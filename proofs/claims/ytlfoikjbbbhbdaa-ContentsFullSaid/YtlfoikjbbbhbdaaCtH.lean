/- The reference's Merge. Condition: at most a million texts in each store. -/
import Derived.Test.YtlfoikjbbbhbdaaCtG
namespace Go.Proofs.Ytlfoikjbbbhbdaa
namespace By
open Go.RowKit WireN CtN
set_option linter.unusedVariables false
set_option linter.unusedSimpArgs false

theorem Jw.setc {w : World} {v : Value} {ts : List Int} {g i : Nat} {u : Value} (h : Jw w v ts) (hne : ∀ b, v.ownBlock = some b → b ≠ g) : Jw (w.setCell ⟨g, i, none⟩ u) v ts := by
  refine h.by (row := some g) (Only.gr ((Only.refl g w).set i u)) (fun b hb e => ?_)
  injection e with e
  exact hne b hb e.symm
/-- A store and numbers that are being made: the store's cell o holds a row of texts u, and nv is a row of numbers. -/
structure MgI (w wr : World) (o : Nat) (u nv : Value) (ts : List Tx) (ns : List Int) : Prop where
  blk : Blk wr o 25 #[u]
  ow : OwT w wr u ts
  oj : OwJ w wr nv ns
  ho : w.heap.size ≤ o
  d1 : ∀ b, u.ownBlock = some b → b ≠ o
  d2 : ∀ b, nv.ownBlock = some b → b ≠ o
  d3 : ∀ b, u.ownBlock = some b → nv.ownBlock ≠ some b
theorem MgI.keep {w wr w' : World} {o : Nat} {u nv : Value} {ts : List Tx} {ns : List Int} (h : MgI w wr o u nv ts ns) (hk : Kp wr w') : MgI w w' o u nv ts ns :=
  ⟨h.blk.keep hk, h.ow.keep hk, h.oj.keep hk, h.ho, h.d1, h.d2, h.d3⟩
theorem MgI.kp {w wr : World} {o : Nat} {u nv : Value} {ts : List Tx} {ns : List Int} (h : MgI w wr o u nv ts ns) : Kp w wr := h.ow.kp
/-- A text was appended and put into the store's cell. -/
theorem MgI.text {w wx w6 : World} {o : Nat} {u nv v6 : Value} {ts us : List Tx} {ns : List Int} (h : MgI w wx o u nv ts ns) (ho6 : OwT w w6 v6 us) (hg6 : wx.grownBy w6 u.ownBlock) (ha6 : v6.ownBlock = u.ownBlock ∨ v6.ownBlock = some wx.heap.size) :
    Blk w6 o 25 #[u] ∧ MgI w (w6.setCell ⟨o, 0, none⟩ v6) o v6 nv us ns := by
  have hne : some o ≠ u.ownBlock := fun e => h.d1 o e.symm rfl
  have hb6 := h.blk.by hg6 hne
  have hu : ∀ r, u.ownBlock = some r → w.heap.size ≤ r := h.ow.newer
  have hoj : OwJ w w6 nv ns := h.oj.by hg6 hu (fun b hb e => h.d3 b e hb)
  have hd6 : ∀ b, v6.ownBlock = some b → b ≠ o := fun b hb e => by
    subst e
    rcases ha6 with hh | hh
    · exact hne (hh ▸ hb).symm
    · rw [hh] at hb; injection hb with hb
      have := h.blk.lt
      omega
  have hgo : w6.grownBy (w6.setCell ⟨o, 0, none⟩ v6) (some o) := Only.gr ((Only.refl o w6).set 0 v6)
  refine ⟨hb6, hb6.set 0 v6, ho6.by hgo (fun r hr => by injection hr with hr; have := h.ho; omega) (fun b hb e => ?_), hoj.by hgo (fun r hr => by injection hr with hr; have := h.ho; omega) (fun b hb e => ?_), h.ho, hd6, h.d2, fun b hb e => ?_⟩
  · injection e with e; exact hd6 b hb e.symm
  · injection e with e; exact h.d2 b hb e.symm
  · rcases ha6 with hh | hh
    · exact h.d3 b (hh ▸ hb) e
    · rw [hh] at hb; injection hb with hb
      have h1 := ((row_frc h.oj.owns).2 b e).2
      omega
/-- A number was appended. -/
theorem MgI.num {w wx w8 : World} {o : Nat} {u nv v8 : Value} {ts : List Tx} {ns ms : List Int} (h : MgI w wx o u nv ts ns) (ho8 : OwJ w w8 v8 ms) (hg8 : wx.grownBy w8 nv.ownBlock) (ha8 : v8.ownBlock = nv.ownBlock ∨ v8.ownBlock = some wx.heap.size) : MgI w w8 o u v8 ts ms := by
  have hne : some o ≠ nv.ownBlock := fun e => h.d2 o e.symm rfl
  have hb8 := h.blk.by hg8 hne
  have hu : ∀ r, nv.ownBlock = some r → w.heap.size ≤ r := h.oj.newer
  refine ⟨hb8, h.ow.by hg8 hu (fun b hb e => h.d3 b hb e), ho8, h.ho, h.d1, fun b hb e => ?_, fun b hb e => ?_⟩
  · subst e
    rcases ha8 with hh | hh
    · exact hne (hh ▸ hb).symm
    · rw [hh] at hb; injection hb with hb
      have := h.blk.lt
      omega
  · rcases ha8 with hh | hh
    · exact h.d3 b hb (hh ▸ e)
    · rw [hh] at e; injection e with e
      have h1 := ((row_frc h.ow.owns).2 b hb).2
      omega
/-- What Merge answers. -/
def mgE (a b : List Tx) : Nat := if err a ≠ 0 then err a else if err b ≠ 0 then err b else if 4096 < (mrg a b).1.length then 2 else 0
def mgL (a b : List Tx) : List Tx := if mgE a b = 0 then (mrg a b).1 else []
def mgN (a b : List Tx) : List Int := if mgE a b = 0 then (mrg a b).2.map (fun (k : Nat) => (k : Int)) else []
theorem mgL_no {a b : List Tx} (h : mgE a b ≠ 0) : mgL a b = [] ∧ mgN a b = [] := ⟨if_neg h, if_neg h⟩
theorem mgL_ok {a b : List Tx} (h : mgE a b = 0) : mgL a b = (mrg a b).1 ∧ mgN a b = (mrg a b).2.map (fun (k : Nat) => (k : Int)) := ⟨if_pos h, if_pos h⟩
/-- What Merge leaves. -/
def MergeR (a b : List Tx) (w : World) (e : Ending) (w' : World) : Prop :=
  ∃ u nv, e = .returned (.tuple #[.agg #[u], nv, .int .i64 (mgE a b : Nat)]) ∧ Tw w' u (mgL a b) ∧ Jw w' nv (mgN a b) ∧ (∀ c, u.ownBlock = some c → w.heap.size ≤ c) ∧ (∀ c, nv.ownBlock = some c → w.heap.size ≤ c) ∧ Kp w w'
end By
end Go.Proofs.Ytlfoikjbbbhbdaa
