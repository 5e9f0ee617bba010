/- The texts of the statement on parentheses, as words, and what they are read as. No condition. -/
import Derived.Test.YtmflgfojicaecaaGreatDoorSLx
import Derived.KernelRfl
namespace SrcN
open LexN
set_option linter.unusedVariables false
set_option linter.unusedSimpArgs false

def opW (i : Nat) : List Nat := if i = 0 then [43] else if i = 1 then [45] else if i = 2 then [42] else if i = 3 then [47] else if i = 4 then [37] else if i = 5 then [60] else [61, 61]
def lvl (i : Nat) : Nat := if i < 2 then 2 else if i < 5 then 3 else 1
def pn (ds : List Nat) (X : Nat) : Pc := .wd ds 2 [] X
def po (i : Nat) : Pc := .wd (opW i) 4 (opW i) 0
def pS (c : Nat) : Pc := .wd [c] 4 [c] 0
def pW (w : List Nat) : Pc := .wd w 1 w 0
/-- package p; test t = -/
def preP (b : Nat) : List Pc := [pW [112, 97, 99, 107, 97, 103, 101], .bl 32, pW [112], pS 59, .bl b, pW [116, 101, 115, 116], .bl 32, pW [116], .bl 32, pS 61, .bl 32]
def plainP (i k : Nat) (p q r : List Nat) (X Y Z : Nat) : List Pc := [pn p X, .bl 32, po i, .bl 32, pn q Y, .bl 32, po k, .bl 32, pn r Z]
def fullL (i k : Nat) (p q r : List Nat) (X Y Z : Nat) : List Pc := [pS 40, pS 40, pS 40, pn p X, po i, pn q Y, pS 41, po k, pn r Z, pS 41, pS 41]
def fullR (i k : Nat) (p q r : List Nat) (X Y Z : Nat) : List Pc := [pS 40, pS 40, pn p X, po i, pS 40, pn q Y, po k, pn r Z, pS 41, pS 41, pS 41]
structure DigL (p : List Nat) (X : Nat) : Prop where
  pos : 0 < p.length
  len : p.length ≤ 5
  all : ∀ c ∈ p, digit c = true
  val : digits p = X
  small : X ≤ 9007199254740992
theorem okn {p R : List Nat} {X : Nat} (h : DigL p X) (hR : digit (at' R 0) = false) : okPc R (pn p X) := by
  have := ok_num h.pos h.all (by rw [h.val]; exact h.small) (.inr hR)
  rw [h.val] at this
  exact this
theorem oko {i : Nat} {R : List Nat} (h : i < 7) (hR : at' R 0 ≠ 61) : okPc R (po i) := by
  obtain rfl | rfl | rfl | rfl | rfl | rfl | rfl : i = 0 ∨ i = 1 ∨ i = 2 ∨ i = 3 ∨ i = 4 ∨ i = 5 ∨ i = 6 := by omega
  · exact ok_sign (by decide) (fun e => absurd e (by decide))
  · exact ok_sign (by decide) (fun e => absurd e (by decide))
  · exact ok_sign (by decide) (fun e => absurd e (by decide))
  · exact ok_sign (by decide) (fun e => absurd e (by decide))
  · exact ok_sign (by decide) (fun e => absurd e (by decide))
  · exact ok_sign (by decide) (fun e => absurd e (by decide))
  · exact ok_eq2
theorem opd {i : Nat} {R : List Nat} (h : i < 7) : digit (at' (opW i ++ R) 0) = false := by
  obtain rfl | rfl | rfl | rfl | rfl | rfl | rfl : i = 0 ∨ i = 1 ∨ i = 2 ∨ i = 3 ∨ i = 4 ∨ i = 5 ∨ i = 6 := by omega
  all_goals rfl
theorem dign {p R : List Nat} {X : Nat} (h : DigL p X) : at' (p ++ R) 0 ≠ 61 := by
  have h0 := h.pos
  have : at' (p ++ R) 0 = at' p 0 := by unfold at'; rw [List.getElem?_append_left h0]
  rw [this]
  cases p with
  | nil => simp at h0
  | cons c r =>
    have := h.all c (by simp)
    unfold digit at this
    simp only [Bool.and_eq_true, decide_eq_true_eq] at this
    show c ≠ 61
    omega
theorem ok_pre {b : Nat} (hb : blank b = true) (r : List Pc) (h : okPs r) : okPs (preP b ++ r) := by
  refine ⟨ok_name (by decide) (by decide) (by decide) (by decide) (.inr rfl), rfl, ok_name (by decide) (by decide) (by decide) (by decide) (.inr rfl), ok_sign (by decide) (fun e => by cases e), hb, ok_name (by decide) (by decide) (by decide) (by decide) (.inr rfl), rfl, ok_name (by decide) (by decide) (by decide) (by decide) (.inr rfl), rfl, ok_sign (by decide) (fun _ => .inr ?_), rfl, h⟩
  show (32 : Nat) ≠ 61
  decide
theorem ok_plain {i k : Nat} {p q r : List Nat} {X Y Z : Nat} (hi : i < 7) (hk : k < 7) (hp : DigL p X) (hq : DigL q Y) (hr : DigL r Z) (R : List Pc) (h : okPs R) (hR : digit (at' (bytes R) 0) = false) : okPs (plainP i k p q r X Y Z ++ R) := by
  refine ⟨okn hp rfl, rfl, oko hi ?_, rfl, okn hq rfl, rfl, oko hk ?_, rfl, okn hr hR, h⟩
  · show (32 : Nat) ≠ 61; decide
  · show (32 : Nat) ≠ 61; decide
theorem ok_fullL {i k : Nat} {p q r : List Nat} {X Y Z : Nat} (hi : i < 7) (hk : k < 7) (hp : DigL p X) (hq : DigL q Y) (hr : DigL r Z) (R : List Pc) (h : okPs R) : okPs (fullL i k p q r X Y Z ++ R) := by
  refine ⟨ok_sign (by decide) (fun e => by cases e), ok_sign (by decide) (fun e => by cases e), ok_sign (by decide) (fun e => by cases e), okn hp (opd hi), oko hi (dign hq), okn hq rfl, ok_sign (by decide) (fun e => by cases e), oko hk (dign hr), okn hr rfl, ok_sign (by decide) (fun e => by cases e), ok_sign (by decide) (fun e => by cases e), h⟩
theorem ok_fullR {i k : Nat} {p q r : List Nat} {X Y Z : Nat} (hi : i < 7) (hk : k < 7) (hp : DigL p X) (hq : DigL q Y) (hr : DigL r Z) (R : List Pc) (h : okPs R) : okPs (fullR i k p q r X Y Z ++ R) := by
  refine ⟨ok_sign (by decide) (fun e => by cases e), ok_sign (by decide) (fun e => by cases e), okn hp (opd hi), oko hi ?_, ok_sign (by decide) (fun e => by cases e), okn hq (opd hk), oko hk (dign hr), okn hr rfl, ok_sign (by decide) (fun e => by cases e), ok_sign (by decide) (fun e => by cases e), ok_sign (by decide) (fun e => by cases e), h⟩
  show (40 : Nat) ≠ 61; decide
/-- What the texts mean. -/
def srcP (i k X Y Z : Nat) : SrcN.Src := ⟨[112], [], [⟨2, [116], [], if lvl i < lvl k then
    [⟨1, (X : Nat), 0, [], []⟩, ⟨1, (Y : Nat), 0, [], []⟩, ⟨1, (Z : Nat), 0, [], []⟩, ⟨4, 0, k + 1, [], [1, 2]⟩, ⟨4, 0, i + 1, [], [0, 3]⟩]
  else [⟨1, (X : Nat), 0, [], []⟩, ⟨1, (Y : Nat), 0, [], []⟩, ⟨4, 0, i + 1, [], [0, 1]⟩, ⟨1, (Z : Nat), 0, [], []⟩, ⟨4, 0, k + 1, [], [2, 3]⟩]⟩]⟩
theorem pP {i k X Y Z b L : Nat} {p q r : List Nat} {R : List Pc} (hi : i < 7) (hk : k < 7) (hc : ¬ (lvl i = 1 ∧ lvl k = 1)) (hR : R = [] ∨ R = [.bl 10]) : parseT 60 (place (preP b ++ (plainP i k p q r X Y Z ++ (pS 59 :: R))) 0 ++ [(5, [], 0, L)]) = some (srcP i k X Y Z, 0, 0) := by
  obtain rfl | rfl | rfl | rfl | rfl | rfl | rfl : i = 0 ∨ i = 1 ∨ i = 2 ∨ i = 3 ∨ i = 4 ∨ i = 5 ∨ i = 6 := by omega
  all_goals
    obtain rfl | rfl | rfl | rfl | rfl | rfl | rfl : k = 0 ∨ k = 1 ∨ k = 2 ∨ k = 3 ∨ k = 4 ∨ k = 5 ∨ k = 6 := by omega
  all_goals
    rcases hR with rfl | rfl
  all_goals first | (exfalso; exact hc ⟨rfl, rfl⟩) | kernel_rfl
theorem pF {i k X Y Z L : Nat} {p q r : List Nat} (hi : i < 7) (hk : k < 7) (hc : ¬ (lvl i = 1 ∧ lvl k = 1)) : parseT 60 (place (preP 32 ++ ((if lvl i < lvl k then fullR i k p q r X Y Z else fullL i k p q r X Y Z) ++ [pS 59])) 0 ++ [(5, [], 0, L)]) = some (srcP i k X Y Z, 0, 0) := by
  obtain rfl | rfl | rfl | rfl | rfl | rfl | rfl : i = 0 ∨ i = 1 ∨ i = 2 ∨ i = 3 ∨ i = 4 ∨ i = 5 ∨ i = 6 := by omega
  all_goals
    obtain rfl | rfl | rfl | rfl | rfl | rfl | rfl : k = 0 ∨ k = 1 ∨ k = 2 ∨ k = 3 ∨ k = 4 ∨ k = 5 ∨ k = 6 := by omega
  all_goals first | (exfalso; exact hc ⟨rfl, rfl⟩) | kernel_rfl
end SrcN
