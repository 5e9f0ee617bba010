/- slices.Grow of nil and slices.Concat of two or three lists of bytes. Condition: together less than 2^46 bytes. -/
import Derived.Test.YtlfoikjbbbhbdaaWNum
import Derived.Lib.AppendZerosOnto
import Derived.Lib.AppendZeros
import Derived.Lib.SliceRun
namespace Go.Proofs.Ytlfoikjbbbhbdaa
namespace By
open Go.RowKit WireN
set_option linter.unusedVariables false
set_option linter.unusedSimpArgs false

theorem own_grown (w : World) (n : Nat) (hn : n ≤ 70368744177664) :
    Own w (w.alloc (.cells (Builtin.zeroCells #[Value.int .u8 0] n ++ Builtin.zeroCells #[Value.int .u8 0] (grownCap w n 0 5 - n)) 5)).drew
      (.slice (some ⟨w.heap.size, 0, none⟩) 0 (grownCap w n 0 5)) [] := by
  have h1 := grownCap_ge w n 0 5
  have h2 := grownCap_le_maxLen w n 0 5 (by unfold maxLen; omega)
  refine ⟨⟨rfl, .inr ⟨w.heap.size, grownCap w n 0 5, _, rfl, Nat.le_refl _, heap_alloc_new w _, Nat.zero_le _, h2, ?_, rfl⟩⟩, Lt.nil, ?_⟩
  · simp [size_zeroCells]; omega
  · exact Kp.trans (kp_alloc w _) (Kp.drewN _ 1)

set_option maxRecDepth 100000 in
set_option maxHeartbeats 1000000 in
theorem Grow_any (n : Nat) (hn : n ≤ 70368744177664) (w : World) :
    Calls Try.prog 57 #[.slice none 0 0, .int .i64 n] w fun e w' => ∃ v, e = .returned v ∧ Own w w' v [] := by
  obtain ⟨i0, hi, hz0, hz1, hz2⟩ := info_parts info32
  by_cases h0 : n = 0
  · subst h0
    go_enter Try.func57, Try.ntmps57
    go_wp2
    go_ret
    exact ⟨_, rfl, Own.start w⟩
  · have hold : (Builtin.firstCells i0.size 0 (.slice none 0 0)).run Try.prog w.drew = .ok ([] : List Value).toArray w.drew := run_firstCells_none w.drew i0.size 0 0 0
    have hrz : ∀ ty, (Builtin.append_ #[48, 3] ty #[.slice none 0 0, .int .i64 (n : Int)]).run Try.prog w =
        .ok (.slice (some ⟨w.heap.size, 0, none⟩) n (grownCap w n 0 5)) (w.drew.alloc (.cells (([] : List Value).toArray ++ Builtin.zeroCells (Value.int .u8 0).cells n ++ Builtin.zeroCells (Value.int .u8 0).cells (grownCap w n 0 5 - n)) 5)) := fun ty => by
      have h := Lib.run_append_grow_zeros w 48 3 ty 5 i0 (.int .u8 0) .i64 .i64 Try.underlying48 Try.underlying3 hi hz0 none 0 0 [] hold n (by omega) (by rw [hz1]; decide) (by omega) (by omega)
        (by rw [hz2]; omega) (by rw [Nat.zero_add, hz2]; exact growslice_fits (by omega) (by omega))
      rw [Nat.zero_add] at h
      exact h
    have FIN := Lib.hid (own_grown w n hn)
    have hge := grownCap_ge w n 0 5
    have hle := grownCap_le_maxLen w n 0 5 (by unfold maxLen; omega)
    unfold maxLen at hle
    obtain ⟨G, hG⟩ : ∃ G, G = grownCap w n 0 5 := ⟨_, rfl⟩
    rw [← hG] at hrz FIN hge hle
    have HRZ := Lib.hid hrz
    clear hG hold hz0 hz1 hz2 hi hrz
    go_enter Try.func57, Try.ntmps57
    go_wp2_with (at_builtin; refine Lib.wpList_append_run _ rfl _ _ _ _ rfl _ _ rfl rfl _ _ (HRZ.out _) ?_)
    go_ret
    exact ⟨_, rfl, FIN.out⟩

/-- A list of slices of bytes in memory, below block B. -/
structure Lists (w : World) (a : Option Addr) (xss : List (List Nat)) : Prop where
  ex : ∃ b, a = some ⟨b, 0, none⟩ ∧ ∃ vs : List Value, vs.length = xss.length ∧ (∀ i, i < xss.length → w.cell? ⟨b, i, none⟩ = some (vs[i]?.getD (.slice none 0 0)) ∧ Sl w (vs[i]?.getD (.slice none 0 0)) (xss[i]?.getD []))
theorem Lists.at_ {w : World} {a : Option Addr} {xss : List (List Nat)} (h : Lists w a xss) : ∃ b, a = some ⟨b, 0, none⟩ ∧ ∀ i, i < xss.length → ∃ v, w.cell? ⟨b, i, none⟩ = some v ∧ Sl w v (xss[i]?.getD []) := by
  obtain ⟨b, rfl, vs, hl, hc⟩ := h
  exact ⟨b, rfl, fun i hi => ⟨_, hc i hi⟩⟩
theorem Lists.keep {w w' : World} {a : Option Addr} {xss : List (List Nat)} (h : Lists w a xss) (hk : Kp w w') : Lists w' a xss := by
  obtain ⟨b, rfl, vs, hl, hc⟩ := h
  exact ⟨b, rfl, vs, hl, fun i hi => ⟨(hk.cell (World.block_lt_of_cell? w _ (hc i hi).1)).trans (hc i hi).1, (hc i hi).2.keep hk⟩⟩
theorem Lists.two {w : World} {e : TypeId} {v0 v1 : Value} {xs ys : List Nat} (h0 : Sl w v0 xs) (h1 : Sl w v1 ys) : Lists (w.alloc (.cells #[v0, v1] e)) (some ⟨w.heap.size, 0, none⟩) [xs, ys] := by
  refine ⟨_, rfl, [v0, v1], rfl, fun i hi => ?_⟩
  rw [cell_of_row _ w.heap.size i _ e (0, 0) (heap_alloc_new w _)]
  have hi' : i < 2 := hi
  match i, hi' with
  | 0, _ => exact ⟨rfl, h0.keep (kp_alloc _ _)⟩
  | 1, _ => exact ⟨rfl, h1.keep (kp_alloc _ _)⟩
theorem Lists.three {w : World} {e : TypeId} {v0 v1 v2 : Value} {xs ys zs : List Nat} (h0 : Sl w v0 xs) (h1 : Sl w v1 ys) (h2 : Sl w v2 zs) : Lists (w.alloc (.cells #[v0, v1, v2] e)) (some ⟨w.heap.size, 0, none⟩) [xs, ys, zs] := by
  refine ⟨_, rfl, [v0, v1, v2], rfl, fun i hi => ?_⟩
  rw [cell_of_row _ w.heap.size i _ e (0, 0) (heap_alloc_new w _)]
  have hi' : i < 3 := hi
  match i, hi' with
  | 0, _ => exact ⟨rfl, h0.keep (kp_alloc _ _)⟩
  | 1, _ => exact ⟨rfl, h1.keep (kp_alloc _ _)⟩
  | 2, _ => exact ⟨rfl, h2.keep (kp_alloc _ _)⟩
/-- all bytes of the first lists -/
def cat (xss : List (List Nat)) (k : Nat) : List Nat := (xss.take k).flatten
theorem cat_succ {xss : List (List Nat)} {k : Nat} (h : k < xss.length) : cat xss (k + 1) = cat xss k ++ xss[k]?.getD [] := by
  unfold cat
  rw [List.take_succ_eq_append_getElem h, List.flatten_append, List.getElem?_eq_getElem h]
  simp
theorem cat_len_le (xss : List (List Nat)) (k : Nat) : (cat xss k).length ≤ xss.flatten.length := by
  have h : xss.flatten = cat xss k ++ (xss.drop k).flatten := by unfold cat; rw [← List.flatten_append, List.take_append_drop]
  rw [h, List.length_append]; omega
theorem cat_all {xss : List (List Nat)} {k : Nat} (h : xss.length ≤ k) : cat xss k = xss.flatten := by unfold cat; rw [List.take_of_length_le h]

set_option maxRecDepth 100000 in
set_option maxHeartbeats 2000000 in
theorem Concat_any {a : Option Addr} {xss : List (List Nat)} {n cap : Nat} {w : World} (hls : Lists w a xss) (hn : xss.length = n) (hn3 : n ≤ 1000) (hsum : xss.flatten.length ≤ 70368744177664) :
    Calls Try.prog 50 #[.slice a n cap] w fun e w' => ∃ v, e = .returned v ∧ Own w w' v xss.flatten := by
  obtain ⟨b, rfl, hcell⟩ := hls.at_
  rw [hn] at hcell
  have HC := Lib.hid hcell; have HN := Lib.hid hn
  clear hcell hls hn
  go_enter Try.func50, Try.ntmps50
  go_wp2_with fail
  go_loop [11, 3] (fun i s => ∃ k : Nat, k ≤ n ∧ i = .int .i64 k ∧ s = .int .i64 ((cat xss k).length : Nat)) (fun i _ => n - (intOf i).toNat)
  case atStart => exact ⟨0, Nat.zero_le _, rfl, rfl⟩
  case round =>
    obtain ⟨k, hk, rfl, rfl⟩ := hrel
    by_cases hkn : k < n
    · obtain ⟨v, hv, hsv⟩ := HC.out k hkn
      obtain ⟨ao, cp, rfl, hc, hm, hno⟩ := hsv.open3
      have hs2 := cat_succ (xss := xss) (k := k) (by have := HN.out; omega)
      have hle := cat_len_le xss (k + 1)
      have hl2 := congrArg List.length hs2
      rw [List.length_append] at hl2
      rw [hl2] at hle
      have HL2 := Lib.hid hl2
      obtain ⟨L, hL⟩ : ∃ L, L = (xss[k]?.getD []).length := ⟨_, rfl⟩
      obtain ⟨M, hM⟩ : ∃ M, M = (cat xss k).length := ⟨_, rfl⟩
      rw [← hL, ← hM] at HL2 hle
      rw [← hL] at hv
      rw [← hM]
      clear hs2 hl2 hL hM hno hm hc hsv
      go_wp2_with fail
      go_round
      case rel => exact ⟨k + 1, by omega, by go_num, by rw [HL2.out]; go_num⟩
      case measure => simp [intOf]; omega
    · have hall := cat_all (xss := xss) (k := k) (by have := HN.out; omega)
      rw [hall]
      obtain ⟨S, hS⟩ : ∃ S, S = xss.flatten.length := ⟨_, rfl⟩
      rw [← hS] at hsum ⊢
      have HS := Lib.hid hS
      clear hall hS
      go_wp2_with fail
      refine (Grow_any S hsum _).mono ?_
      rintro e w1 ⟨v1, rfl, hown⟩
      have HOWN := Lib.hid hown; clear hown
      go_wp2_with fail
      go_loopw [27, 6] (fun i v wy => ∃ j : Nat, j ≤ n ∧ i = .int .i64 j ∧ Own w wy v (cat xss j)) (fun i _ _ => n - (intOf i).toNat)
      case atStart => exact ⟨0, Nat.zero_le _, rfl, HOWN.out⟩
      case round =>
        obtain ⟨j, hj, rfl, hown⟩ := hrel
        rename World => wx
        have HO := Lib.hid hown; clear hown
        by_cases hjn : j < n
        · obtain ⟨v, hv, hsv⟩ := HC.out j hjn
          have hv1 := (HO.out.kp.cell (World.block_lt_of_cell? w _ hv)).trans hv
          have HSV := Lib.hid (hsv.keep HO.out.kp)
          obtain ⟨ao, cp, rfl, hc, hm, hno⟩ := hsv.open3
          obtain ⟨ao', cp', hfo, -, -⟩ := HO.out.form
          have HCS := Lib.hid (cat_succ (xss := xss) (k := j) (by have := HN.out; omega))
          have HLE := Lib.hid (cat_len_le xss (j + 1))
          clear hv hsv hc hm hno
          subst hfo
          go_wp2_with (at_builtin; refine wpList_ap (w := w) rfl (.tmp 31) (.tmp 32) 48 rfl Try.underlying48 _ _ (cat xss j) (xss[j]?.getD []) rfl rfl HO.out HSV.out (by have h1 := HLE.out; rw [HCS.out, List.length_append] at h1; have := HS.out; omega) ?_)
          intro v' w2 hown2
          rw [← HCS.out] at hown2
          have HOWN2 := Lib.hid hown2; clear hown2
          go_wp2_with fail
          go_roundw
          case rel => exact ⟨j + 1, by omega, by go_num, HOWN2.out⟩
          case measure => simp [intOf]; omega
        · have fin := HO.out
          rw [cat_all (xss := xss) (k := j) (by have := HN.out; omega)] at fin
          have FIN := Lib.hid fin; clear fin
          go_wp2_with fail
          go_ret
          exact ⟨_, rfl, FIN.out⟩
end By
end Go.Proofs.Ytlfoikjbbbhbdaa
