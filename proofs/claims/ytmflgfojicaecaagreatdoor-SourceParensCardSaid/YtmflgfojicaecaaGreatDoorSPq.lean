/- The sources of the statement on parentheses: they pass Check, and their texts. Condition: the numbers are below 65536. -/
import Derived.Test.YtmflgfojicaecaaGreatDoorSDg
import Derived.Test.YtmflgfojicaecaaGreatDoorMFo
import Derived.Test.YtmflgfojicaecaaGreatDoorMVa
namespace SrcN
open LexN
set_option linter.unusedVariables false
set_option linter.unusedSimpArgs false

def numT (X : Nat) : T := .mk 1 (X : Nat) 0 [] []
def treP (i k X Y Z : Nat) : TD := ⟨2, [116], [], if lvl i < lvl k then .mk 4 0 ((i + 1 : Nat) : Int) [] [numT X, .mk 4 0 ((k + 1 : Nat) : Int) [] [numT Y, numT Z]] else .mk 4 0 ((k + 1 : Nat) : Int) [] [.mk 4 0 ((i + 1 : Nat) : Int) [] [numT X, numT Y], numT Z]⟩
theorem dcP (i k X Y Z : Nat) : (srcP i k X Y Z).xs.dc = [treP i k X Y Z].map TD.xd := by
  unfold srcP treP
  by_cases h : lvl i < lvl k
  · simp only [if_pos h]; rfl
  · simp only [if_neg h]; rfl
theorem nodeX {X : Nat} (h : X < 65536) (ps : Int) : nodeB ⟨1, (X : Nat), 0, [], []⟩ ps = true := by
  unfold nodeB nodeN nodeO nodeM nodeA
  simp; omega
theorem nodeOp {i : Nat} (h : i < 7) (a b ps : Int) : nodeB ⟨4, 0, ((i + 1 : Nat) : Int), [], [a, b]⟩ ps = true := by
  unfold nodeB nodeN nodeO nodeM nodeA
  simp; omega
theorem okX {X : Nat} (h : X < 65536) (ps : Int) : okT ps (numT X) = true := by
  unfold numT
  simp only [okT, okTs, Bool.and_true]
  exact nodeX h ps
theorem okO {i : Nat} (h : i < 7) (ps : Int) : okN 4 0 ((i + 1 : Nat) : Int) [] 2 ps = true := nodeOp h 0 0 ps
theorem okP {i k X Y Z : Nat} (hi : i < 7) (hk : k < 7) (hX : X < 65536) (hY : Y < 65536) (hZ : Z < 65536) : okT (treP i k X Y Z).ps.length (treP i k X Y Z).t = true := by
  unfold treP
  simp only [List.length_nil]
  by_cases h : lvl i < lvl k
  · simp only [if_pos h, okT, okTs, okX hX, okX hY, okX hZ, Bool.and_true, Bool.true_and, List.length_cons, List.length_nil]
    rw [okO hi, okO hk]; rfl
  · simp only [if_neg h, okT, okTs, okX hX, okX hY, okX hZ, Bool.and_true, Bool.true_and, List.length_cons, List.length_nil]
    rw [okO hi, okO hk]; rfl
theorem bodyP {i k X Y Z : Nat} (hi : i < 7) (hk : k < 7) (hX : X < 65536) (hY : Y < 65536) (hZ : Z < 65536) : (srcP i k X Y Z).xs.dc.all declB = true := by
  have x := nodeX hX 0; have y := nodeX hY 0; have z := nodeX hZ 0
  have e : ∀ (a : Nat), ((a + 1 : Nat) : Int) = ((a + 1 : Nat) : Int) := fun _ => rfl
  have hnm : isNm [116] = true := by decide
  unfold srcP
  by_cases h : lvl i < lvl k
  · simp only [if_pos h]
    show (declB ⟨2, [116], [], [⟨1, (X : Nat), 0, [], []⟩, ⟨1, (Y : Nat), 0, [], []⟩, ⟨1, (Z : Nat), 0, [], []⟩, ⟨4, 0, ((k + 1 : Nat) : Int), [], [((1 : Nat) : Int), ((2 : Nat) : Int)]⟩, ⟨4, 0, ((i + 1 : Nat) : Int), [], [((0 : Nat) : Int), ((3 : Nat) : Int)]⟩]⟩ && true) = true
    have hb : bodyB [⟨1, (X : Nat), 0, [], []⟩, ⟨1, (Y : Nat), 0, [], []⟩, ⟨1, (Z : Nat), 0, [], []⟩, ⟨4, 0, ((k + 1 : Nat) : Int), [], [((1 : Nat) : Int), ((2 : Nat) : Int)]⟩, ⟨4, 0, ((i + 1 : Nat) : Int), [], [((0 : Nat) : Int), ((3 : Nat) : Int)]⟩] 0 = true := by
      unfold bodyB
      simp only [bodyF, x, y, z, nodeOp hi, nodeOp hk]
      simp
    rw [Bool.and_true]
    unfold declB
    rw [if_neg (show ¬ ((2 : Int) = 1) by decide), if_pos rfl]
    show (isNm [116] && (decide (([] : List (List Nat)).length = 0) && _)) = true
    rw [hnm, hb]
    rfl
  · simp only [if_neg h]
    show (declB ⟨2, [116], [], [⟨1, (X : Nat), 0, [], []⟩, ⟨1, (Y : Nat), 0, [], []⟩, ⟨4, 0, ((i + 1 : Nat) : Int), [], [((0 : Nat) : Int), ((1 : Nat) : Int)]⟩, ⟨1, (Z : Nat), 0, [], []⟩, ⟨4, 0, ((k + 1 : Nat) : Int), [], [((2 : Nat) : Int), ((3 : Nat) : Int)]⟩]⟩ && true) = true
    have hb : bodyB [⟨1, (X : Nat), 0, [], []⟩, ⟨1, (Y : Nat), 0, [], []⟩, ⟨4, 0, ((i + 1 : Nat) : Int), [], [((0 : Nat) : Int), ((1 : Nat) : Int)]⟩, ⟨1, (Z : Nat), 0, [], []⟩, ⟨4, 0, ((k + 1 : Nat) : Int), [], [((2 : Nat) : Int), ((3 : Nat) : Int)]⟩] 0 = true := by
      unfold bodyB
      simp only [bodyF, x, y, z, nodeOp hi, nodeOp hk]
      simp
    rw [Bool.and_true]
    unfold declB
    rw [if_neg (show ¬ ((2 : Int) = 1) by decide), if_pos rfl]
    show (isNm [116] && (decide (([] : List (List Nat)).length = 0) && _)) = true
    rw [hnm, hb]
    rfl
theorem chkP {i k X Y Z : Nat} (hi : i < 7) (hk : k < 7) (hX : X < 65536) (hY : Y < 65536) (hZ : Z < 65536) : chk (srcP i k X Y Z).xs = 0 := by
  have h1 : srcB (srcP i k X Y Z).xs = true := by
    unfold srcB
    rw [bodyP hi hk hX hY hZ]
    have : isNm [112] = true := by decide
    show (isNm [112] && (true && true)) = true
    rw [this]; rfl
  have h2 : dstB (srcP i k X Y Z).xs = true := by rfl
  have h3 : smlB (srcP i k X Y Z).xs = true := by
    unfold srcP
    by_cases h : lvl i < lvl k
    · simp only [if_pos h]; kernel_rfl
    · simp only [if_neg h]; kernel_rfl
  unfold chk
  rw [h1, h2, h3]; rfl
theorem shortP (i k X Y Z : Nat) : shortS (srcP i k X Y Z) = true := by
  unfold srcP
  by_cases h : lvl i < lvl k
  · simp only [if_pos h]; kernel_rfl
  · simp only [if_neg h]; kernel_rfl
theorem textP {i k X Y Z : Nat} (hi : i < 7) (hk : k < 7) (hc : ¬ (lvl i = 1 ∧ lvl k = 1)) (hX : X < 65536) (hY : Y < 65536) (hZ : Z < 65536) : bytes (preP 10 ++ (plainP i k (digF 4 X) (digF 4 Y) (digF 4 Z) X Y Z ++ [pS 59, .bl 10])) = fileT (srcP i k X Y Z).xs.pk (srcP i k X Y Z).xs.im [treP i k X Y Z] := by
  have eX := itoaN_dig (k := 4) (n := X) (by omega)
  have eY := itoaN_dig (k := 4) (n := Y) (by omega)
  have eZ := itoaN_dig (k := 4) (n := Z) (by omega)
  obtain ⟨tX, hx⟩ : ∃ t, t = digF 4 X := ⟨_, rfl⟩
  obtain ⟨tY, hy⟩ : ∃ t, t = digF 4 Y := ⟨_, rfl⟩
  obtain ⟨tZ, hz⟩ : ∃ t, t = digF 4 Z := ⟨_, rfl⟩
  rw [← hx] at eX ⊢
  rw [← hy] at eY ⊢
  rw [← hz] at eZ ⊢
  clear hx hy hz hX hY hZ
  obtain rfl | rfl | rfl | rfl | rfl | rfl | rfl : i = 0 ∨ i = 1 ∨ i = 2 ∨ i = 3 ∨ i = 4 ∨ i = 5 ∨ i = 6 := by omega
  all_goals
    obtain rfl | rfl | rfl | rfl | rfl | rfl | rfl : k = 0 ∨ k = 1 ∨ k = 2 ∨ k = 3 ∨ k = 4 ∨ k = 5 ∨ k = 6 := by omega
  all_goals first
    | (exfalso; exact hc ⟨rfl, rfl⟩)
    | (simp [treP, numT, lvl, fileT, importsT, declsT, declT, headT, srcP, Src.xs, wrT, wrTs, SrcN.txt, lvOf, opLv, opLf, opSg, eX, eY, eZ, bytes, Pc.bytes, preP, plainP, pn, po, pS, pW, opW])
end SrcN
