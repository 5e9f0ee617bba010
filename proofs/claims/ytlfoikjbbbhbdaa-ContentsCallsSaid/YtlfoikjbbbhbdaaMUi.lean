/- slices.Grow of nil and slices.Concat of two or three lists of bytes. Condition: together less than 2^46 bytes. -/
import Derived.Test.YtlfoikjbbbhbdaaWNum
import Derived.Lib.AppendZerosOnto
import Derived.Lib.AppendZeros
import Derived.Lib.SliceRun
import Derived.Test.YtlfoikjbbbhbdaaStr
namespace Go.Proofs.Ytlfoikjbbbhbdaa
namespace By
open Go.RowKit WireN
set_option linter.unusedVariables false
set_option linter.unusedSimpArgs false

theorem own_grown (w : World) (n : Nat) (hn : n ≤ 70368744177664) :
    Own w (w.alloc (.cells (Builtin.zeroCells #[Value.int .u8 0] n ++ Builtin.zeroCells #[Value.int .u8 0] (grownCap w n 0 5 - n)) 5)).drew
      (.slice (some ⟨w.heap.size, 0, none⟩) 0 (grownCap w n 0 5)) [] := by
  have h1 := grownCap_ge w n 0 5
  have h2 := grownCap_le_maxLen w n 0 5 (by unfold maxLen; omega)
  refine ⟨⟨rfl, .inr ⟨w.heap.size, grownCap w n 0 5, _, rfl, Nat.le_refl _, heap_alloc_new w _, Nat.zero_le _, h2, ?_, rfl⟩⟩, Lt.nil, ?_⟩
  · simp [size_zeroCells]; omega
  · exact Kp.trans (kp_alloc w _) (Kp.drewN _ 1)

set_option maxRecDepth 100000 in
set_option maxHeartbeats 1000000 in
theorem Grow_any (n : Nat) (hn : n ≤ 70368744177664) (w : World) :
    Calls Try.prog 57 #[.slice none 0 0, .int .i64 n] w fun e w' => ∃ v, e = .returned v ∧ Own w w' v [] := by
  obtain ⟨i0, hi, hz0, hz1, hz2⟩ := info_parts info32
  by_cases h0 : n = 0
  · subst h0
    go_enter Try.func57, Try.ntmps57
    go_wp2
    go_ret
    exact ⟨_, rfl, Own.start w⟩
  · have hold : (Builtin.firstCells i0.size 0 (.slice none 0 0)).run Try.prog w.drew = .ok ([] : List Value).toArray w.drew := run_firstCells_none w.drew i0.size 0 0 0
    have hrz : ∀ ty, (Builtin.append_ #[48, 3] ty #[.slice none 0 0, .int .i64 (n : Int)]).run Try.prog w =
        .ok (.slice (some ⟨w.heap.size, 0, none⟩) n (grownCap w n 0 5)) (w.drew.alloc (.cells (([] : List Value).toArray ++ Builtin.zeroCells (Value.int .u8 0).cells n ++ Builtin.zeroCells (Value.int .u8 0).cells (grownCap w n 0 5 - n)) 5)) := fun ty => by
      have h := Lib.run_append_grow_zeros w 48 3 ty 5 i0 (.int .u8 0) .i64 .i64 Try.underlying48 Try.underlying3 hi hz0 none 0 0 [] hold n (by omega) (by rw [hz1]; decide) (by omega) (by omega)
        (by rw [hz2]; omega) (by rw [Nat.zero_add, hz2]; exact growslice_fits (by omega) (by omega))
      rw [Nat.zero_add] at h
      exact h
    have FIN := Lib.hid (own_grown w n hn)
    have hge := grownCap_ge w n 0 5
    have hle := grownCap_le_maxLen w n 0 5 (by unfold maxLen; omega)
    unfold maxLen at hle
    obtain ⟨G, hG⟩ : ∃ G, G = grownCap w n 0 5 := ⟨_, rfl⟩
    rw [← hG] at hrz FIN hge hle
    have HRZ := Lib.hid hrz
    clear hG hold hz0 hz1 hz2 hi hrz
    go_enter Try.func57, Try.ntmps57
    go_wp2_with (at_builtin; refine Lib.wpList_append_run _ rfl _ _ _ _ rfl _ _ rfl rfl _ _ (HRZ.out _) ?_)
    go_ret
    exact ⟨_, rfl, FIN.out⟩

/-- A list of slices of bytes in memory, below block B. -/
structure Lists (w : World) (a : Option Addr) (xss : List (List Nat)) : Prop where
  ex : ∃ b, a = some ⟨b, 0, none⟩ ∧ ∃ vs : List Value, vs.length = xss.length ∧ (∀ i, i < xss.length → w.cell? ⟨b, i, none⟩ = some (vs[i]?.getD (.slice none 0 0)) ∧ Sl w (vs[i]?.getD (.slice none 0 0)) (xss[i]?.getD []))
theorem Lists.at_ {w : World} {a : Option Addr} {xss : List (List Nat)} (h : Lists w a xss) : ∃ b, a = some ⟨b, 0, none⟩ ∧ ∀ i, i < xss.length → ∃ v, w.cell? ⟨b, i, none⟩ = some v ∧ Sl w v (xss[i]?.getD []) := by
  obtain ⟨b, rfl, vs, hl, hc⟩ := h
  exact ⟨b, rfl, fun i hi => ⟨_, hc i hi⟩⟩
theorem Lists.keep {w w' : World} {a : Option Addr} {xss : List (List Nat)} (h : Lists w a xss) (hk : Kp w w') : Lists w' a xss := by
  obtain ⟨b, rfl, vs, hl, hc⟩ := h
  exact ⟨b, rfl, vs, hl, fun i hi => ⟨(hk.cell (World.block_lt_of_cell? w _ (hc i hi).1)).trans (hc i hi).1, (hc i hi).2.keep hk⟩⟩
theorem Lists.two {w : World} {e : TypeId} {v0 v1 : Value} {xs ys : List Nat} (h0 : Sl w v0 xs) (h1 : Sl w v1 ys) : Lists (w.alloc (.cells #[v0, v1] e)) (some ⟨w.heap.size, 0, none⟩) [xs, ys] := by
  refine ⟨_, rfl, [v0, v1], rfl, fun i hi => ?_⟩
  rw [cell_of_row _ w.heap.size i _ e (0, 0) (heap_alloc_new w _)]
  have hi' : i < 2 := hi
  match i, hi' with
  | 0, _ => exact ⟨rfl, h0.keep (kp_alloc _ _)⟩
  | 1, _ => exact ⟨rfl, h1.keep (kp_alloc _ _)⟩
theorem Lists.three {w : World} {e : TypeId} {v0 v1 v2 : Value} {xs ys zs : List Nat} (h0 : Sl w v0 xs) (h1 : Sl w v1 ys) (h2 : Sl w v2 zs) : Lists (w.alloc (.cells #[v0, v1, v2] e)) (some ⟨w.heap.size, 0, none⟩) [xs, ys, zs] := by
  refine ⟨_, rfl, [v0, v1, v2], rfl, fun i hi => ?_⟩
  rw [cell_of_row _ w.heap.size i _ e (0, 0) (heap_alloc_new w _)]
  have hi' : i < 3 := hi
  match i, hi' with
  | 0, _ => exact ⟨rfl, h0.keep (kp_alloc _ _)⟩
  | 1, _ => exact ⟨rfl, h1.keep (kp_alloc _ _)⟩
  | 2, _ => exact ⟨rfl, h2.keep (kp_alloc _ _)⟩
/-- all bytes of the first lists -/
def cat (xss : List (List Nat)) (k : Nat) : List Nat := (xss.take k).flatten
theorem cat_succ {xss : List (List Nat)} {k : Nat} (h : k < xss.length) : cat xss (k + 1) = cat xss k ++ xss[k]?.getD [] := by
  unfold cat
  rw [List.take_succ_eq_append_getElem h, List.flatten_append, List.getElem?_eq_getElem h]
  simp
theorem cat_len_le (xss : List (List Nat)) (k : Nat) : (cat xss k).length ≤ xss.flatten.length := by
  have h : xss.flatten = cat xss k ++ (xss.drop k).flatten := by unfold cat; rw [← List.flatten_append, List.take_append_drop]
  rw [h, List.length_append]; omega
theorem cat_all {xss : List (List Nat)} {k : Nat} (h : xss.length ≤ k) : cat xss k = xss.flatten := by unfold cat; rw [List.take_of_length_le h]

set_option maxRecDepth 100000 in
set_option maxHeartbeats 2000000 in
theorem Concat_any {a : Option Addr} {xss : List (List Nat)} {n cap : Nat} {w : World} (hls : Lists w a xss) (hn : xss.length = n) (hn3 : n ≤ 1000) (hsum : xss.flatten.length ≤ 70368744177664) :
    Calls Try.prog 50 #[.slice a n cap] w fun e w' => ∃ v, e = .returned v ∧ Own w w' v xss.flatten := by
  obtain ⟨b, rfl, hcell⟩ := hls.at_
  rw [hn] at hcell
  have HC := Lib.hid hcell; have HN := Lib.hid hn
  clear hcell hls hn
  go_enter Try.func50, Try.ntmps50
  go_wp2_with fail
  go_loop [11, 3] (fun i s => ∃ k : Nat, k ≤ n ∧ i = .int .i64 k ∧ s = .int .i64 ((cat xss k).length : Nat)) (fun i _ => n - (intOf i).toNat)
  case atStart => exact ⟨0, Nat.zero_le _, rfl, rfl⟩
  case round =>
    obtain ⟨k, hk, rfl, rfl⟩ := hrel
    by_cases hkn : k < n
    · obtain ⟨v, hv, hsv⟩ := HC.out k hkn
      obtain ⟨ao, cp, rfl, hc, hm, hno⟩ := hsv.open3
      have hs2 := cat_succ (xss := xss) (k := k) (by have := HN.out; omega)
      have hle := cat_len_le xss (k + 1)
      have hl2 := congrArg List.length hs2
      rw [List.length_append] at hl2
      rw [hl2] at hle
      have HL2 := Lib.hid hl2
      obtain ⟨L, hL⟩ : ∃ L, L = (xss[k]?.getD []).length := ⟨_, rfl⟩
      obtain ⟨M, hM⟩ : ∃ M, M = (cat xss k).length := ⟨_, rfl⟩
      rw [← hL, ← hM] at HL2 hle
      rw [← hL] at hv
      rw [← hM]
      clear hs2 hl2 hL hM hno hm hc hsv
      go_wp2_with fail
      go_round
      case rel => exact ⟨k + 1, by omega, by go_num, by rw [HL2.out]; go_num⟩
      case measure => simp [intOf]; omega
    · have hall := cat_all (xss := xss) (k := k) (by have := HN.out; omega)
      rw [hall]
      obtain ⟨S, hS⟩ : ∃ S, S = xss.flatten.length := ⟨_, rfl⟩
      rw [← hS] at hsum ⊢
      have HS := Lib.hid hS
      clear hall hS
      go_wp2_with fail
      refine (Grow_any S hsum _).mono ?_
      rintro e w1 ⟨v1, rfl, hown⟩
      have HOWN := Lib.hid hown; clear hown
      go_wp2_with fail
      go_loopw [27, 6] (fun i v wy => ∃ j : Nat, j ≤ n ∧ i = .int .i64 j ∧ Own w wy v (cat xss j)) (fun i _ _ => n - (intOf i).toNat)
      case atStart => exact ⟨0, Nat.zero_le _, rfl, HOWN.out⟩
      case round =>
        obtain ⟨j, hj, rfl, hown⟩ := hrel
        rename World => wx
        have HO := Lib.hid hown; clear hown
        by_cases hjn : j < n
        · obtain ⟨v, hv, hsv⟩ := HC.out j hjn
          have hv1 := (HO.out.kp.cell (World.block_lt_of_cell? w _ hv)).trans hv
          have HSV := Lib.hid (hsv.keep HO.out.kp)
          obtain ⟨ao, cp, rfl, hc, hm, hno⟩ := hsv.open3
          obtain ⟨ao', cp', hfo, -, -⟩ := HO.out.form
          have HCS := Lib.hid (cat_succ (xss := xss) (k := j) (by have := HN.out; omega))
          have HLE := Lib.hid (cat_len_le xss (j + 1))
          clear hv hsv hc hm hno
          subst hfo
          go_wp2_with (at_builtin; refine wpList_ap (w := w) rfl (.tmp 31) (.tmp 32) 48 rfl Try.underlying48 _ _ (cat xss j) (xss[j]?.getD []) rfl rfl HO.out HSV.out (by have h1 := HLE.out; rw [HCS.out, List.length_append] at h1; have := HS.out; omega) ?_)
          intro v' w2 hown2
          rw [← HCS.out] at hown2
          have HOWN2 := Lib.hid hown2; clear hown2
          go_wp2_with fail
          go_roundw
          case rel => exact ⟨j + 1, by omega, by go_num, HOWN2.out⟩
          case measure => simp [intOf]; omega
        · have fin := HO.out
          rw [cat_all (xss := xss) (k := j) (by have := HN.out; omega)] at fin
          have FIN := Lib.hid fin; clear fin
          go_wp2_with fail
          go_ret
          exact ⟨_, rfl, FIN.out⟩
end By
end Go.Proofs.Ytlfoikjbbbhbdaa

/- Strings as bytes and back; the program's PutUint, PutInt and PutText. Conditions: the slices hold the bytes that are named; together less than 2^46 bytes. -/
namespace Go.Proofs.Ytlfoikjbbbhbdaa
namespace By
open Go.RowKit WireN
set_option linter.unusedVariables false
set_option linter.unusedSimpArgs false

set_option maxRecDepth 100000 in
set_option maxHeartbeats 1000000 in
theorem PutUint_any {v : Value} {xs : List Nat} {w : World} (hs : Sl w v xs) (hx : xs.length ≤ 35184372088832) (n : Nat) (hn : n < 18446744073709551616) :
    Calls Try.prog 49 #[v, .int .u64 n] w fun e w' => ∃ v', e = .returned v' ∧ Own w w' v' (xs ++ uv n) := by
  obtain ⟨ao, cap, rfl, -, -, -⟩ := hs.open3
  have HS := Lib.hid hs; clear hs
  have HT := Lib.hid (uv_ten hn)
  go_enter Try.func49, Try.ntmps49
  go_wp2_with fail
  refine (number_any n hn _).mono ?_
  rintro e w1 ⟨⟨v1, rfl, hs1, -⟩, hk1⟩
  obtain ⟨ao1, cap1, rfl, -, -, -⟩ := hs1.open3
  have HK1 := Lib.hid hk1; have HL := Lib.hid (Lists.two (e := 48) (HS.out.keep hk1) hs1); clear hs1 hk1
  go_wp2_with fail
  refine (Concat_any HL.out rfl (by simp) (by have := HT.out; simp; omega)).mono ?_
  rintro e w2 ⟨v2, rfl, hown⟩
  have FIN : Hid (Own w w2 v2 (xs ++ uv n)) := by
    have h := hown.base (Kp.trans HK1.out (kp_alloc _ _))
    show Own _ _ _ _
    simpa using h
  clear hown
  go_wp2_with fail
  go_ret
  exact ⟨_, rfl, FIN.out⟩

end By
end Go.Proofs.Ytlfoikjbbbhbdaa

/- The program's Uint, Int and Text: what is read at any place. Conditions: the slice holds the bytes that are named, 64-bit integers. -/
namespace Go.Proofs.Ytlfoikjbbbhbdaa
namespace By
open Go.RowKit WireN
set_option linter.unusedVariables false
set_option linter.unusedSimpArgs false

set_option maxRecDepth 100000 in
set_option maxHeartbeats 1000000 in
theorem joined_any {v : Value} {m : List Nat} {w : World} (hs : Sl w v m) (h10 : m.length ≤ 10) (hj : jn m < 18446744073709551616) :
    Calls Try.prog 77 #[v] w fun e w' => e = .returned (.int .u64 (jn m : Nat)) ∧ w = w' := by
  obtain ⟨ao, cap, rfl, hc, hm, hno⟩ := hs.open3
  obtain ⟨len, hlen⟩ : ∃ len, len = m.length := ⟨_, rfl⟩
  rw [← hlen] at hs hc h10 ⊢
  have HS := Lib.hid hs; have HL := Lib.hid hlen; have HJ := Lib.hid hj
  clear hs hlen hno hm hj
  go_enter Try.func77, Try.ntmps77
  go_wp2_with fail
  go_loop [7, 2] (fun i n => ∃ k : Nat, k ≤ len ∧ i = .int .i64 k ∧ n = .int .u64 (jn (m.take k) : Nat)) (fun i _ => len - (intOf i).toNat)
  case atStart => exact ⟨0, Nat.zero_le _, rfl, rfl⟩
  case round =>
    obtain ⟨k, hk, rfl, rfl⟩ := hrel
    by_cases hkl : k < len
    · obtain ⟨b, off, rfl, hcell⟩ := sl_cell HS.out (by omega)
      have hc1 := hcell k hkl
      clear hcell
      have hxb := HS.out.lt k
      obtain ⟨x, ex⟩ : ∃ x, x = m[k]?.getD 0 := ⟨_, rfl⟩
      rw [← ex] at hc1 hxb
      have EX := Lib.hid ex; clear ex
      have hand := andNot128 x hxb
      obtain ⟨T, hT⟩ : ∃ T, T = x % 128 * 128 ^ k := ⟨_, rfl⟩
      have hsnoc : jn (m.take (k + 1)) = jn (m.take k) + T := by
        rw [take_snoc (by have := HL.out; omega), jn_snoc, ← EX.out, hT, List.length_take, Nat.min_eq_left (by have := HL.out; omega), Nat.mul_comm]
      have hle : jn (m.take (k + 1)) ≤ jn m := by
        have := jn_split m (k + 1)
        rw [this]; omega
      obtain ⟨J, hJ⟩ : ∃ J, J = jn (m.take k) := ⟨_, rfl⟩
      rw [← hJ] at hsnoc ⊢
      have hJ2 : J < 128 ^ k := by rw [hJ]; have := jn_lt (m.take k); rwa [List.length_take, Nat.min_eq_left (by have := HL.out; omega)] at this
      have hTb : J + T < 18446744073709551616 := by have := HJ.out; omega
      have hor : bits .or .u64 (J : Int) (T : Int) = ((J + T : Nat) : Int) := by
        rw [u64_or J T (by omega) (by omega)]
        have h1 := Nat.shiftLeft_add_eq_or_of_lt (b := J) (i := 7 * k) (by rw [Nat.pow_mul]; exact hJ2) (x % 128)
        rw [Nat.shiftLeft_eq, Nat.pow_mul] at h1
        rw [hT, Nat.or_comm]
        show ((x % 128 * 128 ^ k ||| J : Nat) : Int) = _
        rw [← h1, Nat.add_comm]
      have hwr : IntKind.u64.wrap ((x : Int) % 128 * 2 ^ (7 * k)) = (T : Int) := by
        have e3 : ((x : Int) % 128 * 2 ^ (7 * k)) = (T : Int) := by
          rw [hT, Int.natCast_mul, Int.natCast_pow, Int.pow_mul]; rfl
        rw [e3]
        show (T : Int) % 18446744073709551616 = _
        omega
      rw [← hwr] at hor
      have HSN := Lib.hid hsnoc; have HOR := Lib.hid hor
      clear hsnoc hor hT hJ hJ2 hle hwr
      go_wp2_with fail
      go_round
      case rel => exact ⟨k + 1, by omega, by go_num, by rw [HSN.out]; exact vint HOR.out⟩
      case measure => simp [intOf]; omega
    · have FIN : Hid (m.take k = m) := List.take_of_length_le (by have := HL.out; omega)
      go_wp2_with fail
      go_ret
      exact ⟨ret_int (by rw [FIN.out]), rfl⟩

/-- What Uint answers. -/
def rdV (xs : List Nat) (i : Int) : Value := .tuple #[.int .u64 ((rd xs i).1 : Nat), .int .i64 ((rd xs i).2.1 : Nat), .int .i64 ((rd xs i).2.2 : Nat)]
theorem rdV_of {xs : List Nat} {i : Int} {n p e : Nat} (h : rd xs i = (n, p, e)) : rdV xs i = .tuple #[.int .u64 (n : Nat), .int .i64 (p : Nat), .int .i64 (e : Nat)] := by unfold rdV; rw [h]
theorem rdV_eq {xs : List Nat} {i : Int} {n p e : Nat} (h : rd xs i = (n, p, e)) {N P E : Int} (hN : N = n) (hP : P = p) (hE : E = e) : Ending.returned (.tuple #[.int .u64 N, .int .i64 P, .int .i64 E]) = .returned (rdV xs i) := by
  rw [rdV_of h, hN, hP, hE]
theorem elem8 : Try.prog.elem 48 = 5 := by kernel_rfl
theorem size8 (w : World) : (sizeOf (Try.prog.elem 48)).run Try.prog w = .ok 1 w := by
  obtain ⟨i0, hi, hz0, hz1, hz2⟩ := info_parts info32
  rw [elem8]
  simp [sizeOf, typeInfo, hi, hz1]
theorem und8 : Try.prog.underlying 48 = some (.slice (Try.prog.elem 48)) := by rw [elem8]; exact Try.underlying48
theorem slice_from (ao : Option Addr) (len cap i : Nat) (hi : i ≤ len) (w : World) : (Instr.slice 48 (.slice ao len cap) (some (.int .i64 (i : Int))) none none).run Try.prog w = .ok (sliced ao i len cap 1) w := by
  rw [run_slice_l w 48 ao len cap und8 .i64 (i : Int) (by omega) (by omega), size8, Int.toNat_natCast]
  rfl
theorem slice_span (ao : Option Addr) (len cap i j : Nat) (I J : Int) (hI : I = i) (hJ : J = j) (hi : i ≤ j) (hj : j ≤ cap) (w : World) :
    (Instr.slice 48 (.slice ao len cap) (some (.int .i64 I)) (some (.int .i64 J)) none).run Try.prog w = .ok (sliced ao i j cap 1) w := by
  subst hI hJ
  rw [run_slice_lh w 48 ao len cap und8 .i64 .i64 (i : Int) (j : Int) (by omega) (by omega) (by omega), size8, Int.toNat_natCast, Int.toNat_natCast]
  rfl
theorem slice_to (ao : Option Addr) (len cap j : Nat) (J : Int) (hJ : J = j) (hj : j ≤ cap) (w : World) :
    (Instr.slice 48 (.slice ao len cap) none (some (.int .i64 J)) none).run Try.prog w = .ok (sliced ao 0 j cap 1) w := by
  subst hJ
  rw [run_slice_h w 48 ao len cap und8 .i64 (j : Int) (by omega) (by omega), size8, Int.toNat_natCast]
  rfl

set_option maxRecDepth 100000 in
set_option maxHeartbeats 2000000 in
theorem Uint_any {v : Value} {xs : List Nat} {w : World} (hs : Sl w v xs) (i : Int) (hi : -9223372036854775808 ≤ i ∧ i ≤ 9223372036854775807) :
    Calls Try.prog 72 #[v, .int .i64 i] w fun e w' => e = .returned (rdV xs i) ∧ w = w' := by
  obtain ⟨ao, cap, rfl, hc, hm, hno⟩ := hs.open3
  obtain ⟨len, hlen⟩ : ∃ len, len = xs.length := ⟨_, rfl⟩
  rw [← hlen] at hs hc ⊢
  have hlm : len ≤ 140737488355328 := by have := hs.sm; omega
  obtain ⟨hi1, hi2⟩ := hi
  unfold maxLen at hm
  clear hno
  by_cases h0 : i < 0
  · have FIN := Lib.hid (rd_range (l := xs) (.inl h0))
    clear hs hlen
    go_enter Try.func72, Try.ntmps72
    go_wp2_with fail
    go_ret3
    exact ⟨rdV_eq FIN.out rfl rfl rfl, rfl⟩
  · obtain ⟨j, rfl⟩ : ∃ j : Nat, i = j := ⟨i.toNat, by omega⟩
    by_cases hj : len < j
    · have FIN := Lib.hid (rd_range (l := xs) (i := (j : Int)) (.inr (by omega)))
      clear hs hlen
      go_enter Try.func72, Try.ntmps72
      go_wp2_with fail
      go_ret3
      exact ⟨rdV_eq FIN.out rfl rfl rfl, rfl⟩
    · have hsl := slice_from ao len cap j (by omega)
      have hsd := hs.cut j len (by omega) (Nat.le_refl _)
      rw [List.take_of_length_le (by omega)] at hsd
      obtain ⟨V, hV⟩ : ∃ V, V = sliced ao j len cap 1 := ⟨_, rfl⟩
      rw [← hV] at hsl hsd
      have HSD := Lib.hid hsd
      clear hV hsd
      by_cases ho : on (xs.drop j) = (xs.drop j).length
      · have HIX : Hid (idxF (xs.drop j) = -1) := by show _ = _; unfold idxF; rw [if_pos ho]
        have FIN := Lib.hid (rd_end (l := xs) (i := j) (by omega) ho)
        clear hs hlen ho
        go_enter Try.func72, Try.ntmps72
        go_wp2_with fail
        refine (IndexFunc_any HSD.out).mono ?_
        rintro e w' ⟨rfl, rfl⟩
        rw [HIX.out]
        go_wp2_with fail
        go_ret3
        exact ⟨rdV_eq FIN.out rfl rfl rfl, rfl⟩
      · obtain ⟨k, hk⟩ : ∃ k, on (xs.drop j) = k := ⟨_, rfl⟩
        have hkl : k < (xs.drop j).length := by have := on_le (xs.drop j); omega
        have HIX : Hid (idxF (xs.drop j) = (k : Int)) := by show _ = _; unfold idxF; rw [if_neg ho, hk]
        have hjk : j + k + 1 ≤ len := by rw [List.length_drop] at hkl; omega
        have hsl2 := fun w => slice_span ao len cap j (j + k + 1) (j : Int) ((j : Int) + (k : Int) + 1) rfl (by omega) (by omega) (by omega) w
        have hsd2 := hs.cut j (j + k + 1) (by omega) hjk
        rw [List.drop_take, show j + k + 1 - j = k + 1 by omega] at hsd2
        obtain ⟨V2, hV2⟩ : ∃ V2, V2 = sliced ao j (j + k + 1) cap 1 := ⟨_, rfl⟩
        rw [← hV2] at hsl2 hsd2
        have hml : ((xs.drop j).take (k + 1)).length = k + 1 := by rw [List.length_take]; omega
        obtain ⟨z, hz⟩ : ∃ z, z = (xs.drop j)[k]?.getD 0 := ⟨_, rfl⟩
        have hmz : ((xs.drop j).take (k + 1))[k]?.getD 0 = z := by rw [List.getElem?_take, if_pos (by omega), ← hz]
        by_cases hsh : short k z = true
        · have hjl : jn ((xs.drop j).take (k + 1)) < 18446744073709551616 := short_lt hkl (by rw [← hz]; exact hsh)
          have FIN := Lib.hid (rd_ok (l := xs) (i := j) (by omega) hk hkl (by rw [← hz]; exact hsh))
          have hk9 := short_len hsh
          have HSH := Lib.hid hsh; have HML := Lib.hid hml; have HMZ := Lib.hid hmz; have HSD2 := Lib.hid hsd2; have HJL := Lib.hid hjl
          clear hs hlen ho hk hkl hV2 hsd2 hml hz hmz hsh hjl
          go_enter Try.func72, Try.ntmps72
          go_wp2_with fail
          refine (IndexFunc_any HSD.out).mono ?_
          rintro e w' ⟨rfl, rfl⟩
          rw [HIX.out]
          go_wp2_with fail
          refine (shortest_any HSD2.out k HML.out z HMZ.out).mono ?_
          rintro e w' ⟨rfl, rfl⟩
          rw [HSH.out]
          go_wp2_with fail
          refine (joined_any HSD2.out (by rw [HML.out]; omega) HJL.out).mono ?_
          rintro e w' ⟨rfl, rfl⟩
          go_wp2_with fail
          go_ret3
          exact ⟨rdV_eq FIN.out rfl (by omega) rfl, rfl⟩
        · have hsf : short k z = false := by simpa using hsh
          have FIN := Lib.hid (rd_text (l := xs) (i := j) (by omega) hk hkl (by rw [← hz]; exact hsf))
          have HSH := Lib.hid hsf; have HML := Lib.hid hml; have HMZ := Lib.hid hmz; have HSD2 := Lib.hid hsd2
          clear hs hlen ho hk hkl hV2 hsd2 hml hz hmz hsh hsf
          go_enter Try.func72, Try.ntmps72
          go_wp2_with fail
          refine (IndexFunc_any HSD.out).mono ?_
          rintro e w' ⟨rfl, rfl⟩
          rw [HIX.out]
          go_wp2_with fail
          refine (shortest_any HSD2.out k HML.out z HMZ.out).mono ?_
          rintro e w' ⟨rfl, rfl⟩
          rw [HSH.out]
          go_wp2_with fail
          go_ret3
          exact ⟨rdV_eq FIN.out rfl rfl rfl, rfl⟩

def rdIV (xs : List Nat) (i : Int) : Value := .tuple #[.int .i64 (unfo (rd xs i).1), .int .i64 ((rd xs i).2.1 : Nat), .int .i64 ((rd xs i).2.2 : Nat)]
end By
end Go.Proofs.Ytlfoikjbbbhbdaa

/- The program's Text: a string that is read at any place. Conditions: the slice holds the bytes that are named, 64-bit integers. -/
namespace Go.Proofs.Ytlfoikjbbbhbdaa
namespace By
open Go.RowKit WireN
set_option linter.unusedVariables false
set_option linter.unusedSimpArgs false

def rdTV (xs : List Nat) (i most : Int) : Value := .tuple #[.string (st (rdT xs i most).1), .int .i64 ((rdT xs i most).2.1 : Nat), .int .i64 ((rdT xs i most).2.2 : Nat)]
theorem rdTV_eq {xs : List Nat} {i most : Int} {b : List Nat} {p e : Nat} (h : rdT xs i most = (b, p, e)) {s : ByteArray} {P E : Int} (hs : s = st b) (hP : P = p) (hE : E = e) : Ending.returned (.tuple #[.string s, .int .i64 P, .int .i64 E]) = .returned (rdTV xs i most) := by
  unfold rdTV; rw [h, hs, hP, hE]
theorem st_nil : (⟨#[]⟩ : ByteArray) = st [] := rfl
end By
end Go.Proofs.Ytlfoikjbbbhbdaa
