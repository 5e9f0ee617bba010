/- The order of two fractions by their continued fractions. Conditions: the slices hold the numbers that are named, of at most 128 limbs, and no denominator is 0. -/
import Derived.Test.YtdoponlhiidimaaGreatDoorTimes
import Derived.Test.YtdoponlhiidimaaGreatDoorMFm
import Derived.Deep.LoopGhost
namespace Go.Proofs.YtdoponlhiidimaaGreatDoor
open Go.RowKit LimbN
set_option linter.unusedVariables false
set_option linter.unusedSimpArgs false

/-- What the loop holds: the fractions of this round. -/
structure CmpSt (w wy : World) (g A B C D : Nat) (ao : Option Addr) (al ac : Nat) (bo : Option Addr) (bl bc : Nat) (co : Option Addr) (cl cc : Nat) (do' : Option Addr) (dl dc : Nat) : Prop where
  t1 : Two wy g 26 (.slice ao al ac) (.slice bo bl bc)
  t2 : Two wy (g + 1) 26 (.slice co cl cc) (.slice do' dl dc)
  sa : Sl wy (.slice ao al ac) (limbs A)
  sb : Sl wy (.slice bo bl bc) (limbs B)
  sc : Sl wy (.slice co cl cc) (limbs C)
  sd : Sl wy (.slice do' dl dc) (limbs D)
  oa : Off g (.slice ao al ac) (limbs A) ∧ Off (g + 1) (.slice ao al ac) (limbs A)
  ob : Off g (.slice bo bl bc) (limbs B) ∧ Off (g + 1) (.slice bo bl bc) (limbs B)
  oc : Off g (.slice co cl cc) (limbs C) ∧ Off (g + 1) (.slice co cl cc) (limbs C)
  od : Off g (.slice do' dl dc) (limbs D) ∧ Off (g + 1) (.slice do' dl dc) (limbs D)
  la : (limbs A).length ≤ 128
  lb : (limbs B).length ≤ 128
  lc : (limbs C).length ≤ 128
  ld : (limbs D).length ≤ 128
  b0 : B ≠ 0
  d0 : D ≠ 0
  kp : Kp w wy
  ge : w.heap.size ≤ g
theorem CmpSt.drewN {w wy : World} {g A B C D : Nat} {ao : Option Addr} {al ac : Nat} {bo : Option Addr} {bl bc : Nat} {co : Option Addr} {cl cc : Nat} {do' : Option Addr} {dl dc : Nat} (h : CmpSt w wy g A B C D ao al ac bo bl bc co cl cc do' dl dc) (n : Nat) :
    CmpSt w (wy.drewN n) g A B C D ao al ac bo bl bc co cl cc do' dl dc :=
  ⟨h.t1.drewN n, h.t2.drewN n, h.sa.keep (Kp.drewN _ n), h.sb.keep (Kp.drewN _ n), h.sc.keep (Kp.drewN _ n), h.sd.keep (Kp.drewN _ n), h.oa, h.ob, h.oc, h.od, h.la, h.lb, h.lc, h.ld, h.b0, h.d0, Kp.trans h.kp (Kp.drewN _ n), h.ge⟩
theorem CmpSt.next {w wy w5 P1 P2 : World} {g A B C D X Y : Nat} {ao : Option Addr} {al ac : Nat} {bo : Option Addr} {bl bc : Nat} {co : Option Addr} {cl cc : Nat} {do' : Option Addr} {dl dc : Nat} {xo : Option Addr} {xl xc : Nat} {yo : Option Addr} {yl yc : Nat}
    (h : CmpSt w wy g A B C D ao al ac bo bl bc co cl cc do' dl dc) (hk : Kp wy w5) (sx : Sl w5 (.slice xo xl xc) (limbs X)) (nx : New wy.heap.size (.slice xo xl xc)) (sy : Sl w5 (.slice yo yl yc) (limbs Y)) (ny : New wy.heap.size (.slice yo yl yc))
    (hx : X ≠ 0) (hy : Y ≠ 0) (lx : (limbs X).length ≤ 128) (ly : (limbs Y).length ≤ 128) (u1 : Put w5 P1 g 26 (.slice bo bl bc) (.slice xo xl xc)) (u2 : Put P1 P2 (g + 1) 26 (.slice do' dl dc) (.slice yo yl yc)) :
    CmpSt w P2 g B X D Y bo bl bc xo xl xc do' dl dc yo yl yc := by
  have g1 := h.t1.lt
  have g2 := h.t2.lt
  have ox : Off g (.slice xo xl xc) (limbs X) ∧ Off (g + 1) (.slice xo xl xc) (limbs X) := ⟨nx.offs g1 _, nx.offs g2 _⟩
  have oy : Off g (.slice yo yl yc) (limbs Y) ∧ Off (g + 1) (.slice yo yl yc) (limbs Y) := ⟨ny.offs g1 _, ny.offs g2 _⟩
  exact ⟨u1.two.other u2.only (by omega), u2.two, ((h.sb.keep hk).only u1.only h.ob.1).only u2.only h.ob.2, (sx.only u1.only ox.1).only u2.only ox.2, ((h.sd.keep hk).only u1.only h.od.1).only u2.only h.od.2, (sy.only u1.only oy.1).only u2.only oy.2, h.ob, ox, h.od, oy, h.lb, lx, h.ld, ly, hx, hy, u2.only.kp (u1.only.kp (Kp.trans h.kp hk) h.ge) (Nat.le_succ_of_le h.ge), h.ge⟩
theorem ord_cases (x y : Nat) : FracN.ord x y = -1 ∨ FracN.ord x y = 0 ∨ FracN.ord x y = 1 := by
  unfold FracN.ord; split
  · exact .inl rfl
  · split
    · exact .inr (.inr rfl)
    · exact .inr (.inl rfl)
theorem ord_zero_iff (x y : Nat) : FracN.ord x y = 0 ↔ x = y := by
  constructor
  · intro h
    by_cases e : x = y
    · exact e
    · exact absurd h (FracN.ord_ne e)
  · rintro rfl; exact FracN.ord_self x
end Go.Proofs.YtdoponlhiidimaaGreatDoor
