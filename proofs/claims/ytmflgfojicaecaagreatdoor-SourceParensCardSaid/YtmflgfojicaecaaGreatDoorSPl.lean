/- The statement on parentheses: the law returns true for all numbers. Condition: the package variables that the code reads lie in memory. -/
import Derived.Test.YtmflgfojicaecaaGreatDoorSPr
import Derived.Test.YtmflgfojicaecaaGreatDoorSSn
import Derived.Test.YtmflgfojicaecaaGreatDoorMFo
import Derived.Deep.RegionHeld3
namespace Go.Proofs.YtmflgfojicaecaaGreatDoor
namespace By
open Go.RowKit WireN LexN SrcN
set_option linter.unusedVariables false
set_option linter.unusedSimpArgs false

theorem opW_at {c : Nat} (h : c < 7) : (#[Value.string ⟨#[43]⟩, Value.string ⟨#[45]⟩, Value.string ⟨#[42]⟩, Value.string ⟨#[47]⟩, Value.string ⟨#[37]⟩, Value.string ⟨#[60]⟩, Value.string ⟨#[61, 61]⟩] : Array Value)[c]? = some (.string (st (opW c))) := by
  obtain rfl | rfl | rfl | rfl | rfl | rfl | rfl : c = 0 ∨ c = 1 ∨ c = 2 ∨ c = 3 ∨ c = 4 ∨ c = 5 ∨ c = 6 := by omega
  all_goals rfl
theorem lvl_at {c : Nat} (h : c < 7) : (#[Value.int .i64 2, Value.int .i64 2, Value.int .i64 3, Value.int .i64 3, Value.int .i64 3, Value.int .i64 1, Value.int .i64 1] : Array Value)[c]? = some (.int .i64 (lvl c : Nat)) := by
  obtain rfl | rfl | rfl | rfl | rfl | rfl | rfl : c = 0 ∨ c = 1 ∨ c = 2 ∨ c = 3 ∨ c = 4 ∨ c = 5 ∨ c = 6 := by omega
  all_goals rfl
theorem lvl_in (c : Nat) : 1 ≤ lvl c ∧ lvl c ≤ 3 := by
  unfold lvl
  by_cases h : c < 2
  · simp [h]
  · by_cases h' : c < 5
    · simp [h, h']
    · simp [h, h']
theorem opW_lt {c : Nat} : Lt (opW c) := by
  unfold opW
  repeat' split
  all_goals exact const_lt (by decide)
theorem digF_lt {n : Nat} (h : n < 65536) : Lt (digF 4 n) := lt_of_mem fun c hc => by
  have := digF_all 4 n (by omega) c hc
  unfold digit at this
  simp only [Bool.and_eq_true, decide_eq_true_eq] at this
  omega
set_option maxRecDepth 100000 in
set_option maxHeartbeats 1000000 in
theorem parens_chain {w : World} (hG : Glob w) (hT : Tab10 w) (a : Nat) (ha : a < 256) (b : Nat) (hb : b < 256) (hc : lvl (a % 7) = 1 ∧ lvl (b % 7) = 1) (x y z : Value) : Calls Tryz.prog 6 #[.int .u8 (a : Nat), .int .u8 (b : Nat), x, y, z] w fun e w' => e = .returned (.bool true) ∧ Kp w w' := by
  have HG := Lib.hid hG; have HT := Lib.hid hT
  obtain ⟨i, hi⟩ : ∃ j, j = a % 7 := ⟨_, rfl⟩
  obtain ⟨k, hk⟩ : ∃ j, j = b % 7 := ⟨_, rfl⟩
  have ea : (a : Int) % 7 = (i : Int) := by omega
  have eb : (b : Int) % 7 = (k : Int) := by omega
  have ea' : a % 7 = i := by omega
  have eb' : b % 7 = k := by omega
  have hi7 : i < 7 := by omega
  have hk7 : k < 7 := by omega
  obtain ⟨W1, hW1⟩ : ∃ W1, W1 = w.alloc (Obj.cells #[.string ⟨#[43]⟩, .string ⟨#[45]⟩, .string ⟨#[42]⟩, .string ⟨#[47]⟩, .string ⟨#[37]⟩, .string ⟨#[60]⟩, .string ⟨#[61, 61]⟩] 9) := ⟨_, rfl⟩
  obtain ⟨W2, hW2⟩ : ∃ W2, W2 = W1.alloc (Obj.cells #[.int .i64 2, .int .i64 2, .int .i64 3, .int .i64 3, .int .i64 3, .int .i64 1, .int .i64 1] 3) := ⟨_, rfl⟩
  have k1 : Kp w W1 := by rw [hW1]; exact kp_alloc _ _
  have k2 : Kp W1 W2 := by rw [hW2]; exact kp_alloc _ _
  have K2 := Lib.hid (Kp.trans k1 k2)
  have b1 := Blk.new w 9 #[.string ⟨#[43]⟩, .string ⟨#[45]⟩, .string ⟨#[42]⟩, .string ⟨#[47]⟩, .string ⟨#[37]⟩, .string ⟨#[60]⟩, .string ⟨#[61, 61]⟩]
  rw [← hW1] at b1
  have b2 := Blk.new W1 3 #[.int .i64 2, .int .i64 2, .int .i64 3, .int .i64 3, .int .i64 3, .int .i64 1, .int .i64 1]
  rw [← hW2] at b2
  have z1 : W1.heap.size = w.heap.size + 1 := by rw [hW1]; simp
  have b1 := b1.keep k2
  have s1 := b1.cell i (opW_at hi7)
  have s2 := b1.cell k (opW_at hk7)
  have l1 := b2.cell i (lvl_at hi7)
  have l2 := b2.cell k (lvl_at hk7)
  rw [z1] at l1 l2
  have HW : Hid (W2 = (w.alloc (Obj.cells #[.string ⟨#[43]⟩, .string ⟨#[45]⟩, .string ⟨#[42]⟩, .string ⟨#[47]⟩, .string ⟨#[37]⟩, .string ⟨#[60]⟩, .string ⟨#[61, 61]⟩] 9)).alloc (Obj.cells #[.int .i64 2, .int .i64 2, .int .i64 3, .int .i64 3, .int .i64 3, .int .i64 1, .int .i64 1] 3)) := Lib.hid (by rw [hW2, hW1])
  have HL1 := Lib.hid l1; have HL2 := Lib.hid l2; have HS1 := Lib.hid s1; have HS2 := Lib.hid s2
  clear s1 s2 hi hk hG hT k1 k2 b1 b2 z1 hW1 hW2
  have hoi := opW_len i; have hok := opW_len k
  rw [ea', eb'] at hc
  obtain ⟨R, hR, hR2⟩ := parse0 hi7 hk7 hc
  rw [hc.1] at l1
  rw [hc.2] at l2
  rw [HW.out] at l1 l2
  obtain ⟨O1, hO1⟩ : ∃ S, S = st (opW i) := ⟨_, rfl⟩
  obtain ⟨O2, hO2⟩ : ∃ S, S = st (opW k) := ⟨_, rfl⟩
  obtain ⟨D1, hD1⟩ : ∃ S, S = st ((preD ++ [49, 32]) ++ (opW i)) := ⟨_, rfl⟩
  have fD1 : ∀ w, (Op.stringOp .add ⟨#[112, 97, 99, 107, 97, 103, 101, 32, 112, 59, 32, 116, 101, 115, 116, 32, 116, 32, 61, 32, 49, 32]⟩ O1).run Tryz.prog w = .ok (.string D1) w := fun w => by
    rw [hD1, hO1]
    exact add_st6 (a := (preD ++ [49, 32])) (b := (opW i)) (by
      try simp only [preD, List.length_append, List.length_cons, List.length_nil]
      omega) w
  obtain ⟨D2, hD2⟩ : ∃ S, S = st (((preD ++ [49, 32]) ++ (opW i)) ++ [32, 50, 32]) := ⟨_, rfl⟩
  have fD2 : ∀ w, (Op.stringOp .add D1 ⟨#[32, 50, 32]⟩).run Tryz.prog w = .ok (.string D2) w := fun w => by
    rw [hD2, hD1]
    exact add_st6 (a := ((preD ++ [49, 32]) ++ (opW i))) (b := [32, 50, 32]) (by
      try simp only [preD, List.length_append, List.length_cons, List.length_nil]
      omega) w
  obtain ⟨D3, hD3⟩ : ∃ S, S = st ((((preD ++ [49, 32]) ++ (opW i)) ++ [32, 50, 32]) ++ (opW k)) := ⟨_, rfl⟩
  have fD3 : ∀ w, (Op.stringOp .add D2 O2).run Tryz.prog w = .ok (.string D3) w := fun w => by
    rw [hD3, hD2, hO2]
    exact add_st6 (a := (((preD ++ [49, 32]) ++ (opW i)) ++ [32, 50, 32])) (b := (opW k)) (by
      try simp only [preD, List.length_append, List.length_cons, List.length_nil]
      omega) w
  obtain ⟨D4, hD4⟩ : ∃ S, S = st (((((preD ++ [49, 32]) ++ (opW i)) ++ [32, 50, 32]) ++ (opW k)) ++ [32, 51, 59]) := ⟨_, rfl⟩
  have fD4 : ∀ w, (Op.stringOp .add D3 ⟨#[32, 51, 59]⟩).run Tryz.prog w = .ok (.string D4) w := fun w => by
    rw [hD4, hD3]
    exact add_st6 (a := ((((preD ++ [49, 32]) ++ (opW i)) ++ [32, 50, 32]) ++ (opW k))) (b := [32, 51, 59]) (by
      try simp only [preD, List.length_append, List.length_cons, List.length_nil]
      omega) w
  have CP : Hid (∀ W, Kp w W → Calls Tryz.prog 18 #[.string D4] W (AnsP R W)) := Lib.hid (fun W hk => by
    rw [hD4]
    exact parse_st ((((const_lt (x := preD ++ [49, 32]) (by decide)).append opW_lt).append (const_lt (x := [32, 50, 32]) (by decide))).append opW_lt |>.append (const_lt (x := [32, 51, 59]) (by decide))) (HG.out.kp' hk) hR)
  obtain ⟨E, hE⟩ : ∃ E, E = R.2.2 := ⟨_, rfl⟩
  have s1 := HS1.out; have s2 := HS2.out
  rw [← hO1] at s1
  rw [← hO2] at s2
  have HE : Hid (E = 9) := Lib.hid (by rw [hE, hR2])
  clear hO1 hO2 hD1 hD2 hD3 hD4 hR hR2 hc hoi hok
  go_enter Tryz.func6, Tryz.ntmps6
  go_wp2_with fail
  rw [← HW.out] at l1 l2 ⊢
  have hi7i : (i : Int) < 7 := by omega
  have hk7i : (k : Int) < 7 := by omega
  have AWA : Hid (∀ W, Kp w W → Calls Tryz.prog 17 #[] W fun e w' => e = .returned (.bool true) ∧ Kp w w') := Lib.hid (fun W hk => (awake5_any (HG.out.kp' hk) (tab_keep HT.out hk)).mono fun e w' h => ⟨h.1, Kp.trans hk h.2⟩)
  have HE9 : Hid (R.2.2 = 9) := Lib.hid (by rw [← hE]; exact HE.out)
  have HB : Hid (w.heap.size ≤ W2.heap.size) := Lib.hid K2.out.size
  have hn1 : ¬ w.heap.size = W2.heap.size := by rw [HW.out]; simp; omega
  have hn2 : ¬ W2.heap.size = w.heap.size := fun e => hn1 e.symm
  clear l1 l2 ea eb ea' eb' b1 hE
  go_region_held3 (fun w' => w'.cell? ⟨w.heap.size, i, none⟩ = some (.string O1) ∧ w'.cell? ⟨w.heap.size, k, none⟩ = some (.string O2))
    (first | go_keep | (exact ⟨cell_kept (cell_kept s1 (kp_drew _)) hk3, cell_kept (cell_kept s2 (kp_drew _)) hk3⟩) | (exact ⟨cell_kept (cell_kept (cell_kept s1 (kp_drew _)) (kp_alloc _ _)) hk3, cell_kept (cell_kept (cell_kept s2 (kp_drew _)) (kp_alloc _ _)) hk3⟩) | (exact ⟨cell_kept (cell_kept (cell_kept s1 (kp_drew _)) hk3) (kp_alloc _ _), cell_kept (cell_kept (cell_kept s2 (kp_drew _)) hk3) (kp_alloc _ _)⟩) | fail "no keep")
    (first
     | (go_at_call 18
        refine (CP.out _ (by first | exact Kp.trans K2.out (kp_drew _) | exact Kp.trans (Kp.trans K2.out (kp_drew _)) (kp_alloc _ _))).mono ?_
        rintro e W3 ⟨iv, dv, xs, rfl, hsrc, hk3⟩
        obtain ⟨D, hs1, hs2, -, -⟩ := hsrc.ex
        obtain ⟨io, ic', hiv⟩ := row_open hs1.own
        obtain ⟨do', dc', hdv⟩ := row_open hs2.row.own
        rw [HE9.out]
        subst hiv hdv
        clear hsrc hs1 hs2
        have hk3' : Kp w W3 := by first | exact Kp.trans (Kp.trans K2.out (kp_drew _)) hk3 | exact Kp.trans (Kp.trans (Kp.trans K2.out (kp_drew _)) (kp_alloc _ _)) hk3
        have HK3 := Lib.hid hk3'
        clear hk3'
        try (have bz : Blk W3 W2.heap.size 29 _ := ((Blk.new W2 29 _).keep (kp_drew _)).keep hk3
             have z0 := bz.cell 0 rfl
             have z1 := bz.cell 1 rfl
             have z2 := bz.cell 2 rfl
             have zf0 := bz.free 0
             have zf1 := bz.free 1
             have zf2 := bz.free 2
             clear bz))
     | fail "no arm")
  all_goals go_wp2_with fail
  all_goals refine (AWA.out _ (by first | exact Kp.trans HK3.out (kp_alloc _ _) | exact ((HK3.out.setCell HB.out _).setCell HB.out _).setCell HB.out _)).mono ?_
  all_goals
    rintro e W7 ⟨rfl, hk7⟩
    have HK7 := Lib.hid hk7
    clear hk7
    go_wp2_with fail
    go_ret
    exact ⟨rfl, HK7.out⟩
set_option maxRecDepth 100000 in
set_option maxHeartbeats 4000000 in
theorem parens_lt1 {w : World} (hG : Glob w) (hT : Tab10 w) (a : Nat) (ha : a < 256) (b : Nat) (hb : b < 256) (hc : ¬ (lvl (a % 7) = 1 ∧ lvl (b % 7) = 1)) (hlt : lvl (a % 7) < lvl (b % 7)) (hone : lvl (a % 7) = 1) (x : Nat) (hx : x < 65536) (y : Nat) (hy : y < 65536) (z : Nat) (hz : z < 65536) : Calls Tryz.prog 6 #[.int .u8 (a : Nat), .int .u8 (b : Nat), .int .u16 (x : Nat), .int .u16 (y : Nat), .int .u16 (z : Nat)] w fun e w' => e = .returned (.bool true) ∧ Kp w w' := by
  have HG := Lib.hid hG; have HT := Lib.hid hT
  obtain ⟨i, hi⟩ : ∃ j, j = a % 7 := ⟨_, rfl⟩
  obtain ⟨k, hk⟩ : ∃ j, j = b % 7 := ⟨_, rfl⟩
  have ea : (a : Int) % 7 = (i : Int) := by omega
  have eb : (b : Int) % 7 = (k : Int) := by omega
  have ea' : a % 7 = i := by omega
  have eb' : b % 7 = k := by omega
  have hi7 : i < 7 := by omega
  have hk7 : k < 7 := by omega
  obtain ⟨W1, hW1⟩ : ∃ W1, W1 = w.alloc (Obj.cells #[.string ⟨#[43]⟩, .string ⟨#[45]⟩, .string ⟨#[42]⟩, .string ⟨#[47]⟩, .string ⟨#[37]⟩, .string ⟨#[60]⟩, .string ⟨#[61, 61]⟩] 9) := ⟨_, rfl⟩
  obtain ⟨W2, hW2⟩ : ∃ W2, W2 = W1.alloc (Obj.cells #[.int .i64 2, .int .i64 2, .int .i64 3, .int .i64 3, .int .i64 3, .int .i64 1, .int .i64 1] 3) := ⟨_, rfl⟩
  have k1 : Kp w W1 := by rw [hW1]; exact kp_alloc _ _
  have k2 : Kp W1 W2 := by rw [hW2]; exact kp_alloc _ _
  have K2 := Lib.hid (Kp.trans k1 k2)
  have b1 := Blk.new w 9 #[.string ⟨#[43]⟩, .string ⟨#[45]⟩, .string ⟨#[42]⟩, .string ⟨#[47]⟩, .string ⟨#[37]⟩, .string ⟨#[60]⟩, .string ⟨#[61, 61]⟩]
  rw [← hW1] at b1
  have b2 := Blk.new W1 3 #[.int .i64 2, .int .i64 2, .int .i64 3, .int .i64 3, .int .i64 3, .int .i64 1, .int .i64 1]
  rw [← hW2] at b2
  have z1 : W1.heap.size = w.heap.size + 1 := by rw [hW1]; simp
  have b1 := b1.keep k2
  have s1 := b1.cell i (opW_at hi7)
  have s2 := b1.cell k (opW_at hk7)
  have l1 := b2.cell i (lvl_at hi7)
  have l2 := b2.cell k (lvl_at hk7)
  rw [z1] at l1 l2
  have HW : Hid (W2 = (w.alloc (Obj.cells #[.string ⟨#[43]⟩, .string ⟨#[45]⟩, .string ⟨#[42]⟩, .string ⟨#[47]⟩, .string ⟨#[37]⟩, .string ⟨#[60]⟩, .string ⟨#[61, 61]⟩] 9)).alloc (Obj.cells #[.int .i64 2, .int .i64 2, .int .i64 3, .int .i64 3, .int .i64 3, .int .i64 1, .int .i64 1] 3)) := Lib.hid (by rw [hW2, hW1])
  have HL1 := Lib.hid l1; have HL2 := Lib.hid l2; have HS1 := Lib.hid s1; have HS2 := Lib.hid s2
  clear s1 s2 hi hk hG hT k1 k2 b1 b2 z1 hW1 hW2
  have hoi := opW_len i; have hok := opW_len k
  rw [ea', eb'] at hc hlt
  rw [ea'] at hone
  have hl1 : 1 ≤ lvl i ∧ lvl i ≤ 3 := lvl_in _
  have hl2 : 1 ≤ lvl k ∧ lvl k ≤ 3 := lvl_in _
  have lp := (digF_len 4 x).2; have lq := (digF_len 4 y).2; have lr := (digF_len 4 z).2
  obtain ⟨P, hP⟩ : ∃ S, S = st (digF 4 x) := ⟨_, rfl⟩
  obtain ⟨Q, hQ⟩ : ∃ S, S = st (digF 4 y) := ⟨_, rfl⟩
  obtain ⟨R, hR⟩ : ∃ S, S = st (digF 4 z) := ⟨_, rfl⟩
  obtain ⟨O1, hO1⟩ : ∃ S, S = st (opW i) := ⟨_, rfl⟩
  obtain ⟨O2, hO2⟩ : ∃ S, S = st (opW k) := ⟨_, rfl⟩
  have DX := Lib.hid (Digits_x 4 x (by omega) (by omega)); have DY := Lib.hid (Digits_x 4 y (by omega) (by omega)); have DZ := Lib.hid (Digits_x 4 z (by omega) (by omega))
  rw [← hP] at DX
  rw [← hQ] at DY
  rw [← hR] at DZ
  obtain ⟨A1, hA1⟩ : ∃ S, S = st ((digF 4 x) ++ [32]) := ⟨_, rfl⟩
  have fA1 : ∀ w, (Op.stringOp .add P ⟨#[32]⟩).run Tryz.prog w = .ok (.string A1) w := fun w => by
    rw [hA1, hP]
    exact add_st6 (a := (digF 4 x)) (b := [32]) (by
      try simp only [preD, List.length_append, List.length_cons, List.length_nil]
      omega) w
  obtain ⟨A2, hA2⟩ : ∃ S, S = st (((digF 4 x) ++ [32]) ++ (opW i)) := ⟨_, rfl⟩
  have fA2 : ∀ w, (Op.stringOp .add A1 O1).run Tryz.prog w = .ok (.string A2) w := fun w => by
    rw [hA2, hA1, hO1]
    exact add_st6 (a := ((digF 4 x) ++ [32])) (b := (opW i)) (by
      try simp only [preD, List.length_append, List.length_cons, List.length_nil]
      omega) w
  obtain ⟨A3, hA3⟩ : ∃ S, S = st ((((digF 4 x) ++ [32]) ++ (opW i)) ++ [32]) := ⟨_, rfl⟩
  have fA3 : ∀ w, (Op.stringOp .add A2 ⟨#[32]⟩).run Tryz.prog w = .ok (.string A3) w := fun w => by
    rw [hA3, hA2]
    exact add_st6 (a := (((digF 4 x) ++ [32]) ++ (opW i))) (b := [32]) (by
      try simp only [preD, List.length_append, List.length_cons, List.length_nil]
      omega) w
  obtain ⟨A4, hA4⟩ : ∃ S, S = st (((((digF 4 x) ++ [32]) ++ (opW i)) ++ [32]) ++ (digF 4 y)) := ⟨_, rfl⟩
  have fA4 : ∀ w, (Op.stringOp .add A3 Q).run Tryz.prog w = .ok (.string A4) w := fun w => by
    rw [hA4, hA3, hQ]
    exact add_st6 (a := ((((digF 4 x) ++ [32]) ++ (opW i)) ++ [32])) (b := (digF 4 y)) (by
      try simp only [preD, List.length_append, List.length_cons, List.length_nil]
      omega) w
  obtain ⟨A5, hA5⟩ : ∃ S, S = st ((((((digF 4 x) ++ [32]) ++ (opW i)) ++ [32]) ++ (digF 4 y)) ++ [32]) := ⟨_, rfl⟩
  have fA5 : ∀ w, (Op.stringOp .add A4 ⟨#[32]⟩).run Tryz.prog w = .ok (.string A5) w := fun w => by
    rw [hA5, hA4]
    exact add_st6 (a := (((((digF 4 x) ++ [32]) ++ (opW i)) ++ [32]) ++ (digF 4 y))) (b := [32]) (by
      try simp only [preD, List.length_append, List.length_cons, List.length_nil]
      omega) w
  obtain ⟨A6, hA6⟩ : ∃ S, S = st (((((((digF 4 x) ++ [32]) ++ (opW i)) ++ [32]) ++ (digF 4 y)) ++ [32]) ++ (opW k)) := ⟨_, rfl⟩
  have fA6 : ∀ w, (Op.stringOp .add A5 O2).run Tryz.prog w = .ok (.string A6) w := fun w => by
    rw [hA6, hA5, hO2]
    exact add_st6 (a := ((((((digF 4 x) ++ [32]) ++ (opW i)) ++ [32]) ++ (digF 4 y)) ++ [32])) (b := (opW k)) (by
      try simp only [preD, List.length_append, List.length_cons, List.length_nil]
      omega) w
  obtain ⟨A7, hA7⟩ : ∃ S, S = st ((((((((digF 4 x) ++ [32]) ++ (opW i)) ++ [32]) ++ (digF 4 y)) ++ [32]) ++ (opW k)) ++ [32]) := ⟨_, rfl⟩
  have fA7 : ∀ w, (Op.stringOp .add A6 ⟨#[32]⟩).run Tryz.prog w = .ok (.string A7) w := fun w => by
    rw [hA7, hA6]
    exact add_st6 (a := (((((((digF 4 x) ++ [32]) ++ (opW i)) ++ [32]) ++ (digF 4 y)) ++ [32]) ++ (opW k))) (b := [32]) (by
      try simp only [preD, List.length_append, List.length_cons, List.length_nil]
      omega) w
  obtain ⟨A8, hA8⟩ : ∃ S, S = st (((((((((digF 4 x) ++ [32]) ++ (opW i)) ++ [32]) ++ (digF 4 y)) ++ [32]) ++ (opW k)) ++ [32]) ++ (digF 4 z)) := ⟨_, rfl⟩
  have fA8 : ∀ w, (Op.stringOp .add A7 R).run Tryz.prog w = .ok (.string A8) w := fun w => by
    rw [hA8, hA7, hR]
    exact add_st6 (a := ((((((((digF 4 x) ++ [32]) ++ (opW i)) ++ [32]) ++ (digF 4 y)) ++ [32]) ++ (opW k)) ++ [32])) (b := (digF 4 z)) (by
      try simp only [preD, List.length_append, List.length_cons, List.length_nil]
      omega) w
  obtain ⟨B1, hB1⟩ : ∃ S, S = st ([40] ++ (digF 4 x)) := ⟨_, rfl⟩
  have fB1 : ∀ w, (Op.stringOp .add ⟨#[40]⟩ P).run Tryz.prog w = .ok (.string B1) w := fun w => by
    rw [hB1, hP]
    exact add_st6 (a := [40]) (b := (digF 4 x)) (by
      try simp only [preD, List.length_append, List.length_cons, List.length_nil]
      omega) w
  obtain ⟨B2, hB2⟩ : ∃ S, S = st (([40] ++ (digF 4 x)) ++ (opW i)) := ⟨_, rfl⟩
  have fB2 : ∀ w, (Op.stringOp .add B1 O1).run Tryz.prog w = .ok (.string B2) w := fun w => by
    rw [hB2, hB1, hO1]
    exact add_st6 (a := ([40] ++ (digF 4 x))) (b := (opW i)) (by
      try simp only [preD, List.length_append, List.length_cons, List.length_nil]
      omega) w
  obtain ⟨B3, hB3⟩ : ∃ S, S = st ((([40] ++ (digF 4 x)) ++ (opW i)) ++ (digF 4 y)) := ⟨_, rfl⟩
  have fB3 : ∀ w, (Op.stringOp .add B2 Q).run Tryz.prog w = .ok (.string B3) w := fun w => by
    rw [hB3, hB2, hQ]
    exact add_st6 (a := (([40] ++ (digF 4 x)) ++ (opW i))) (b := (digF 4 y)) (by
      try simp only [preD, List.length_append, List.length_cons, List.length_nil]
      omega) w
  obtain ⟨B4, hB4⟩ : ∃ S, S = st (((([40] ++ (digF 4 x)) ++ (opW i)) ++ (digF 4 y)) ++ [41]) := ⟨_, rfl⟩
  have fB4 : ∀ w, (Op.stringOp .add B3 ⟨#[41]⟩).run Tryz.prog w = .ok (.string B4) w := fun w => by
    rw [hB4, hB3]
    exact add_st6 (a := ((([40] ++ (digF 4 x)) ++ (opW i)) ++ (digF 4 y))) (b := [41]) (by
      try simp only [preD, List.length_append, List.length_cons, List.length_nil]
      omega) w
  obtain ⟨B5, hB5⟩ : ∃ S, S = st ((((([40] ++ (digF 4 x)) ++ (opW i)) ++ (digF 4 y)) ++ [41]) ++ (opW k)) := ⟨_, rfl⟩
  have fB5 : ∀ w, (Op.stringOp .add B4 O2).run Tryz.prog w = .ok (.string B5) w := fun w => by
    rw [hB5, hB4, hO2]
    exact add_st6 (a := (((([40] ++ (digF 4 x)) ++ (opW i)) ++ (digF 4 y)) ++ [41])) (b := (opW k)) (by
      try simp only [preD, List.length_append, List.length_cons, List.length_nil]
      omega) w
  obtain ⟨B6, hB6⟩ : ∃ S, S = st (((((([40] ++ (digF 4 x)) ++ (opW i)) ++ (digF 4 y)) ++ [41]) ++ (opW k)) ++ (digF 4 z)) := ⟨_, rfl⟩
  have fB6 : ∀ w, (Op.stringOp .add B5 R).run Tryz.prog w = .ok (.string B6) w := fun w => by
    rw [hB6, hB5, hR]
    exact add_st6 (a := ((((([40] ++ (digF 4 x)) ++ (opW i)) ++ (digF 4 y)) ++ [41]) ++ (opW k))) (b := (digF 4 z)) (by
      try simp only [preD, List.length_append, List.length_cons, List.length_nil]
      omega) w
  obtain ⟨C1, hC1⟩ : ∃ S, S = st ((digF 4 x) ++ (opW i)) := ⟨_, rfl⟩
  have fC1 : ∀ w, (Op.stringOp .add P O1).run Tryz.prog w = .ok (.string C1) w := fun w => by
    rw [hC1, hP, hO1]
    exact add_st6 (a := (digF 4 x)) (b := (opW i)) (by
      try simp only [preD, List.length_append, List.length_cons, List.length_nil]
      omega) w
  obtain ⟨C2, hC2⟩ : ∃ S, S = st (((digF 4 x) ++ (opW i)) ++ [40]) := ⟨_, rfl⟩
  have fC2 : ∀ w, (Op.stringOp .add C1 ⟨#[40]⟩).run Tryz.prog w = .ok (.string C2) w := fun w => by
    rw [hC2, hC1]
    exact add_st6 (a := ((digF 4 x) ++ (opW i))) (b := [40]) (by
      try simp only [preD, List.length_append, List.length_cons, List.length_nil]
      omega) w
  obtain ⟨C3, hC3⟩ : ∃ S, S = st ((((digF 4 x) ++ (opW i)) ++ [40]) ++ (digF 4 y)) := ⟨_, rfl⟩
  have fC3 : ∀ w, (Op.stringOp .add C2 Q).run Tryz.prog w = .ok (.string C3) w := fun w => by
    rw [hC3, hC2, hQ]
    exact add_st6 (a := (((digF 4 x) ++ (opW i)) ++ [40])) (b := (digF 4 y)) (by
      try simp only [preD, List.length_append, List.length_cons, List.length_nil]
      omega) w
  obtain ⟨C4, hC4⟩ : ∃ S, S = st (((((digF 4 x) ++ (opW i)) ++ [40]) ++ (digF 4 y)) ++ (opW k)) := ⟨_, rfl⟩
  have fC4 : ∀ w, (Op.stringOp .add C3 O2).run Tryz.prog w = .ok (.string C4) w := fun w => by
    rw [hC4, hC3, hO2]
    exact add_st6 (a := ((((digF 4 x) ++ (opW i)) ++ [40]) ++ (digF 4 y))) (b := (opW k)) (by
      try simp only [preD, List.length_append, List.length_cons, List.length_nil]
      omega) w
  obtain ⟨C5, hC5⟩ : ∃ S, S = st ((((((digF 4 x) ++ (opW i)) ++ [40]) ++ (digF 4 y)) ++ (opW k)) ++ (digF 4 z)) := ⟨_, rfl⟩
  have fC5 : ∀ w, (Op.stringOp .add C4 R).run Tryz.prog w = .ok (.string C5) w := fun w => by
    rw [hC5, hC4, hR]
    exact add_st6 (a := (((((digF 4 x) ++ (opW i)) ++ [40]) ++ (digF 4 y)) ++ (opW k))) (b := (digF 4 z)) (by
      try simp only [preD, List.length_append, List.length_cons, List.length_nil]
      omega) w
  obtain ⟨C6, hC6⟩ : ∃ S, S = st (((((((digF 4 x) ++ (opW i)) ++ [40]) ++ (digF 4 y)) ++ (opW k)) ++ (digF 4 z)) ++ [41]) := ⟨_, rfl⟩
  have fC6 : ∀ w, (Op.stringOp .add C5 ⟨#[41]⟩).run Tryz.prog w = .ok (.string C6) w := fun w => by
    rw [hC6, hC5]
    exact add_st6 (a := ((((((digF 4 x) ++ (opW i)) ++ [40]) ++ (digF 4 y)) ++ (opW k)) ++ (digF 4 z))) (b := [41]) (by
      try simp only [preD, List.length_append, List.length_cons, List.length_nil]
      omega) w
  obtain ⟨D1, hD1⟩ : ∃ S, S = st (preD ++ (((((((((digF 4 x) ++ [32]) ++ (opW i)) ++ [32]) ++ (digF 4 y)) ++ [32]) ++ (opW k)) ++ [32]) ++ (digF 4 z))) := ⟨_, rfl⟩
  have fD1 : ∀ w, (Op.stringOp .add ⟨#[112, 97, 99, 107, 97, 103, 101, 32, 112, 59, 32, 116, 101, 115, 116, 32, 116, 32, 61, 32]⟩ A8).run Tryz.prog w = .ok (.string D1) w := fun w => by
    rw [hD1, hA8]
    exact add_st6 (a := preD) (b := (((((((((digF 4 x) ++ [32]) ++ (opW i)) ++ [32]) ++ (digF 4 y)) ++ [32]) ++ (opW k)) ++ [32]) ++ (digF 4 z))) (by
      try simp only [preD, List.length_append, List.length_cons, List.length_nil]
      omega) w
  obtain ⟨D2, hD2⟩ : ∃ S, S = st ((preD ++ (((((((((digF 4 x) ++ [32]) ++ (opW i)) ++ [32]) ++ (digF 4 y)) ++ [32]) ++ (opW k)) ++ [32]) ++ (digF 4 z))) ++ [59]) := ⟨_, rfl⟩
  have fD2 : ∀ w, (Op.stringOp .add D1 ⟨#[59]⟩).run Tryz.prog w = .ok (.string D2) w := fun w => by
    rw [hD2, hD1]
    exact add_st6 (a := (preD ++ (((((((((digF 4 x) ++ [32]) ++ (opW i)) ++ [32]) ++ (digF 4 y)) ++ [32]) ++ (opW k)) ++ [32]) ++ (digF 4 z)))) (b := [59]) (by
      try simp only [preD, List.length_append, List.length_cons, List.length_nil]
      omega) w
  obtain ⟨E1, hE1⟩ : ∃ S, S = st ((preD ++ [40, 40]) ++ (((((((digF 4 x) ++ (opW i)) ++ [40]) ++ (digF 4 y)) ++ (opW k)) ++ (digF 4 z)) ++ [41])) := ⟨_, rfl⟩
  have fE1 : ∀ w, (Op.stringOp .add ⟨#[112, 97, 99, 107, 97, 103, 101, 32, 112, 59, 32, 116, 101, 115, 116, 32, 116, 32, 61, 32, 40, 40]⟩ C6).run Tryz.prog w = .ok (.string E1) w := fun w => by
    rw [hE1, hC6]
    exact add_st6 (a := (preD ++ [40, 40])) (b := (((((((digF 4 x) ++ (opW i)) ++ [40]) ++ (digF 4 y)) ++ (opW k)) ++ (digF 4 z)) ++ [41])) (by
      try simp only [preD, List.length_append, List.length_cons, List.length_nil]
      omega) w
  obtain ⟨E2, hE2⟩ : ∃ S, S = st (((preD ++ [40, 40]) ++ (((((((digF 4 x) ++ (opW i)) ++ [40]) ++ (digF 4 y)) ++ (opW k)) ++ (digF 4 z)) ++ [41])) ++ [41, 41, 59]) := ⟨_, rfl⟩
  have fE2 : ∀ w, (Op.stringOp .add E1 ⟨#[41, 41, 59]⟩).run Tryz.prog w = .ok (.string E2) w := fun w => by
    rw [hE2, hE1]
    exact add_st6 (a := ((preD ++ [40, 40]) ++ (((((((digF 4 x) ++ (opW i)) ++ [40]) ++ (digF 4 y)) ++ (opW k)) ++ (digF 4 z)) ++ [41]))) (b := [41, 41, 59]) (by
      try simp only [preD, List.length_append, List.length_cons, List.length_nil]
      omega) w
  obtain ⟨G1, hG1⟩ : ∃ S, S = st ([112, 97, 99, 107, 97, 103, 101, 32, 112, 59, 10, 116, 101, 115, 116, 32, 116, 32, 61, 32] ++ (((((((((digF 4 x) ++ [32]) ++ (opW i)) ++ [32]) ++ (digF 4 y)) ++ [32]) ++ (opW k)) ++ [32]) ++ (digF 4 z))) := ⟨_, rfl⟩
  have fG1 : ∀ w, (Op.stringOp .add ⟨#[112, 97, 99, 107, 97, 103, 101, 32, 112, 59, 10, 116, 101, 115, 116, 32, 116, 32, 61, 32]⟩ A8).run Tryz.prog w = .ok (.string G1) w := fun w => by
    rw [hG1, hA8]
    exact add_st6 (a := [112, 97, 99, 107, 97, 103, 101, 32, 112, 59, 10, 116, 101, 115, 116, 32, 116, 32, 61, 32]) (b := (((((((((digF 4 x) ++ [32]) ++ (opW i)) ++ [32]) ++ (digF 4 y)) ++ [32]) ++ (opW k)) ++ [32]) ++ (digF 4 z))) (by
      try simp only [preD, List.length_append, List.length_cons, List.length_nil]
      omega) w
  obtain ⟨G2, hG2⟩ : ∃ S, S = st (([112, 97, 99, 107, 97, 103, 101, 32, 112, 59, 10, 116, 101, 115, 116, 32, 116, 32, 61, 32] ++ (((((((((digF 4 x) ++ [32]) ++ (opW i)) ++ [32]) ++ (digF 4 y)) ++ [32]) ++ (opW k)) ++ [32]) ++ (digF 4 z))) ++ [59, 10]) := ⟨_, rfl⟩
  have fG2 : ∀ w, (Op.stringOp .add G1 ⟨#[59, 10]⟩).run Tryz.prog w = .ok (.string G2) w := fun w => by
    rw [hG2, hG1]
    exact add_st6 (a := ([112, 97, 99, 107, 97, 103, 101, 32, 112, 59, 10, 116, 101, 115, 116, 32, 116, 32, 61, 32] ++ (((((((((digF 4 x) ++ [32]) ++ (opW i)) ++ [32]) ++ (digF 4 y)) ++ [32]) ++ (opW k)) ++ [32]) ++ (digF 4 z)))) (b := [59, 10]) (by
      try simp only [preD, List.length_append, List.length_cons, List.length_nil]
      omega) w
  obtain ⟨SR, hSR⟩ : ∃ S, S = srcP i k x y z := ⟨_, rfl⟩
  obtain ⟨RR, hRR⟩ : ∃ R : SrcN.Src × Nat × Nat, R = (SR, 0, 0) := ⟨_, rfl⟩
  have HSH : Hid (shortS SR = true) := Lib.hid (by rw [hSR]; exact shortP _ _ _ _ _)
  have hd1 := digF_lt hx; have hd2 := digF_lt hy; have hd3 := digF_lt hz
  have hpre : Lt preD := const_lt (by decide)
  have CP1 : Hid (∀ W, Kp w W → Calls Tryz.prog 18 #[.string D2] W (AnsP RR W)) := Lib.hid (fun W hk => by
    rw [hD2, hRR, hSR]
    exact parse_st ((hpre.append ((((((((hd1.append (const_lt (x := [32]) (by decide))).append opW_lt).append (const_lt (x := [32]) (by decide))).append hd2).append (const_lt (x := [32]) (by decide))).append opW_lt).append (const_lt (x := [32]) (by decide))).append hd3)).append (const_lt (x := [59]) (by decide))) (HG.out.kp' hk) (parse1 hi7 hk7 hc (digL hx) (digL hy) (digL hz)))
  have hfull : (((((((digF 4 x) ++ (opW i)) ++ [40]) ++ (digF 4 y)) ++ (opW k)) ++ (digF 4 z)) ++ [41]) = fullT i k (digF 4 x) (digF 4 y) (digF 4 z) := by
    unfold fullT
    rw [if_pos hlt]
  have CP2 : Hid (∀ W, Kp w W → Calls Tryz.prog 18 #[.string E2] W (AnsP RR W)) := Lib.hid (fun W hk => by
    rw [hE2, hRR, hSR, hfull]
    refine parse_st ?_ (HG.out.kp' hk) (parse2 hi7 hk7 hc (digL hx) (digL hy) (digL hz))
    refine ((hpre.append (const_lt (x := [40, 40]) (by decide))).append ?_).append (const_lt (x := [41, 41, 59]) (by decide))
    unfold fullT
    rw [if_pos hlt]
    exact (((((hd1.append opW_lt).append (const_lt (x := [40]) (by decide))).append hd2).append opW_lt).append hd3).append (const_lt (x := [41]) (by decide)))
  have CF : Hid (∀ W iv dv, Kp w W → SrcV W iv dv SR.xs → CapD W dv → Calls Tryz.prog 13 #[.agg #[.string ⟨#[112]⟩, iv, dv]] W fun e w' => e = .returned (.tuple #[.string G2, .int .i64 0]) ∧ Kp W w') := Lib.hid (fun W iv dv hk hv hcap => by
    rw [hSR] at hv
    have := Format_ok (f := (srcP i k x y z).xs) (ds := [treP i k x y z]) (n := 60) (R := (srcP i k x y z, 0, 0)) (HG.out.kp' hk) (tab_keep HT.out hk) hv hcap (by show 0 < 1000000; decide) (chkP hi7 hk7 hx hy hz) (dcP _ _ _ _ _) (fun d hd => by
      obtain rfl : d = treP i k x y z := by simpa using hd
      exact ⟨.inr (.inl rfl), okP hi7 hk7 hx hy hz⟩) (textP hi7 hk7 hc hx hy hz) (by
        rw [text3]
        simp only [List.length_append, List.length_cons, List.length_nil]; omega) (parse3 hi7 hk7 hc (digL hx) (digL hy) (digL hz))
    rw [if_pos rfl, text3, ← hG2] at this
    exact this)
  have ER : Hid (RR.1 = SR) := Lib.hid (by rw [hRR])
  have EP : Hid (st SR.pk = ⟨#[112]⟩) := Lib.hid (by rw [hSR]; rfl)
  have EI : Hid (SR.im.length = 0) := Lib.hid (by rw [hSR]; rfl)
  have ED : Hid (SR.dc.length = 1) := Lib.hid (by rw [hSR]; rfl)
  have EA : Hid (RR.2.1 = 0) := Lib.hid (by rw [hRR])
  have EE : Hid (RR.2.2 = 0) := Lib.hid (by rw [hRR])
  obtain ⟨LI, hLI⟩ : ∃ z, z = lvl i := ⟨_, rfl⟩
  obtain ⟨LK, hLK⟩ : ∃ z, z = lvl k := ⟨_, rfl⟩
  rw [← hLI] at hl1 hlt hone l1 HL1 hc
  rw [← hLK] at hl2 hlt l2 HL2 hc
  have lo1 := hl1.1; have lo2 := hl1.2; have lo3 := hl2.1; have lo4 := hl2.2
  subst hone
  have t2 : ((LK : Int) == 1) = false := by
    have : (LK : Int) ≠ 1 := by omega
    simpa using this
  have t3 : decide (1 < LK) = true := decide_eq_true (by omega)
  have t5 : decide ((1 : Int) < (LK : Int)) = true := decide_eq_true (by omega)
  have t4 : decide (((1 : Nat) : Int) < (LK : Int)) = true := decide_eq_true (by omega)
  have s1 := HS1.out; have s2 := HS2.out
  rw [← hO1] at s1
  rw [← hO2] at s2
  have X1 := Lib.hid s1; have X2 := Lib.hid s2
  rw [HW.out] at l1 l2
  clear hP hQ hR hO1 hO2 hA1 hA2 hA3 hA4 hA5 hA6 hA7 hA8 hB1 hB2 hB3 hB4 hB5 hB6 hC1 hC2 hC3 hC4 hC5 hC6 hD1 hD2 hE1 hE2 hG1 hG2 hRR hSR hd1 hd2 hd3 hpre hfull hLI hLK hl1 hl2 hlt  hc hoi hok lp lq lr HS1 HS2
  go_enter Tryz.func6, Tryz.ntmps6
  clear s1 s2
  go_wp2_with fail
  rw [← HW.out]
  clear l1 l2
  refine (DX.out _).mono ?_
  rintro e w' ⟨rfl, rfl⟩
  go_wp2_with fail
  refine (DY.out _).mono ?_
  rintro e w' ⟨rfl, rfl⟩
  go_wp2_with fail
  refine (DZ.out _).mono ?_
  rintro e w' ⟨rfl, rfl⟩
  have s1 := X1.out; have s2 := X2.out
  have l1 := HL1.out; have l2 := HL2.out
  go_wp2_with fail
  have KQ0 : Hid (Kp W2 W2) := Lib.hid (Kp.refl _)
  go_quiet (fail)
  have KQ1 : Hid (Kp W2 (W2.drewN nq)) := Lib.hid (Kp.trans KQ0.out (Kp.drewN _ _))
  generalize W2.drewN nq = Wq1 at KQ1 ⊢
  clear s1 s2 l1 l2
  have s1 := cell_kept X1.out KQ1.out
  have s2 := cell_kept X2.out KQ1.out
  have l1 := cell_kept HL1.out KQ1.out
  have l2 := cell_kept HL2.out KQ1.out
  go_wp2_with fail
  go_quiet (fail)
  have KQ2 : Hid (Kp W2 (Wq1.drewN nq)) := Lib.hid (Kp.trans KQ1.out (Kp.drewN _ _))
  generalize Wq1.drewN nq = Wq2 at KQ2 ⊢
  clear s1 s2 l1 l2
  have s1 := cell_kept X1.out KQ2.out
  have s2 := cell_kept X2.out KQ2.out
  have l1 := cell_kept HL1.out KQ2.out
  have l2 := cell_kept HL2.out KQ2.out
  go_wp2_with fail
  go_quiet (fail)
  have KQ3 : Hid (Kp W2 (Wq2.drewN nq)) := Lib.hid (Kp.trans KQ2.out (Kp.drewN _ _))
  generalize Wq2.drewN nq = Wq3 at KQ3 ⊢
  clear s1 s2 l1 l2
  have s1 := cell_kept X1.out KQ3.out
  have s2 := cell_kept X2.out KQ3.out
  have l1 := cell_kept HL1.out KQ3.out
  have l2 := cell_kept HL2.out KQ3.out
  go_wp2_with fail
  go_quiet (fail)
  have KQ4 : Hid (Kp W2 (Wq3.drewN nq)) := Lib.hid (Kp.trans KQ3.out (Kp.drewN _ _))
  generalize Wq3.drewN nq = Wq4 at KQ4 ⊢
  clear s1 s2 l1 l2
  go_wp2_with fail
  have HK2 := Lib.hid (Kp.trans K2.out KQ4.out)
  refine (CP1.out _ HK2.out).mono ?_
  rintro e W3 ⟨iv, dv, xs, rfl, hsrc, hk3⟩
  have V1 := Lib.hid (hsrc.v (by rw [ER.out]; exact HSH.out))
  obtain ⟨D, hs1, hs2, -, -⟩ := hsrc.ex
  obtain ⟨io, ic', hiv⟩ := row_open hs1.own
  obtain ⟨do', dc', hdv⟩ := row_open hs2.row.own
  have HK3 := Lib.hid (Kp.trans HK2.out hk3)
  rw [ER.out] at hiv hdv V1
  rw [EI.out] at hiv
  rw [ED.out] at hdv
  rw [ER.out, EP.out, EA.out, EE.out]
  subst hiv hdv
  obtain ⟨W4, hW4⟩ : ∃ W, W = W3.alloc (Obj.cells #[.string ⟨#[112]⟩, .slice io (0 : Nat) ic', .slice do' (1 : Nat) dc'] 29) := ⟨_, rfl⟩
  have HW4 := Lib.hid hW4
  have K34 : Hid (Kp W3 W4) := Lib.hid (by rw [hW4]; exact kp_alloc _ _)
  have HK4 := Lib.hid (Kp.trans HK3.out K34.out)
  have B1 : Hid (Blk W4 W3.heap.size 29 #[.string ⟨#[112]⟩, .slice io (0 : Nat) ic', .slice do' (1 : Nat) dc']) := Lib.hid (by rw [hW4]; exact Blk.new _ _ _)
  clear hsrc hk3 hs1 hs2 hW4
  go_wp2_with fail
  rw [← HW4.out]
  refine (CP2.out _ HK4.out).mono ?_
  rintro e W5 ⟨iv2, dv2, xs2, rfl, hsrc, hk5⟩
  have hsrc0 := hsrc
  obtain ⟨D, hs1, hs2, -, -⟩ := hsrc.ex
  obtain ⟨io2, ic2, hiv⟩ := row_open hs1.own
  obtain ⟨do2, dc2, hdv⟩ := row_open hs2.row.own
  have K35 := Lib.hid (Kp.trans K34.out hk5)
  have HK5 := Lib.hid (Kp.trans HK4.out hk5)
  rw [ER.out] at hiv hdv
  rw [EI.out] at hiv
  rw [ED.out] at hdv
  rw [ER.out, EP.out, EA.out, EE.out]
  subst hiv hdv
  obtain ⟨W6, hW6⟩ : ∃ W, W = W5.alloc (Obj.cells #[.string ⟨#[112]⟩, .slice io2 (0 : Nat) ic2, .slice do2 (1 : Nat) dc2] 29) := ⟨_, rfl⟩
  have HW6 := Lib.hid hW6
  have k56 : Kp W5 W6 := by rw [hW6]; exact kp_alloc _ _
  have K46 := Lib.hid (Kp.trans hk5 k56)
  have K36 := Lib.hid (Kp.trans K35.out k56)
  have HK6 := Lib.hid (Kp.trans HK5.out k56)
  have b2 : Blk W6 W5.heap.size 29 #[.string ⟨#[112]⟩, .slice io2 (0 : Nat) ic2, .slice do2 (1 : Nat) dc2] := by rw [hW6]; exact Blk.new _ _ _
  have B2 := Lib.hid b2
  have hsrc6 := hsrc0.turn (F2 := fun b => b < W4.heap.size) (k56.keep (fun b hb => hb.2)) (fun b hb => hb)
  have V2 := Lib.hid (hsrc6.v (by rw [ER.out]; exact HSH.out))
  have C2 := Lib.hid hsrc6.cap
  rw [ER.out] at V2
  have CF1 := Lib.hid (CF.out _ _ _ HK6.out V2.out C2.out)
  have y0 := b2.cell 0 rfl; have y1 := b2.cell 1 rfl; have y2 := b2.cell 2 rfl
  rw [hW6] at y0 y1 y2
  clear hsrc hsrc0 hsrc6 hk5 hs1 hs2 hW6 b2 k56
  go_wp2_with fail
  rw [← HW6.out]
  refine CF1.out.mono ?_
  rintro e W7 ⟨rfl, hk7⟩
  have K67 := Lib.hid hk7
  have HK7 := Lib.hid (Kp.trans HK6.out hk7)
  have v1 := V1.out.kp (Kp.trans K36.out hk7)
  have v2 := V2.out.kp hk7
  have CS : Hid (Calls Tryz.prog 12 #[.agg #[.string ⟨#[112]⟩, .slice io (0 : Nat) ic', .slice do' (1 : Nat) dc'], .agg #[.string ⟨#[112]⟩, .slice io2 (0 : Nat) ic2, .slice do2 (1 : Nat) dc2]] W7 fun e W' => e = .returned (.bool true) ∧ Kp W7 W') := Lib.hid (by
    have := Same_eq v1 v2
    have hp : st SR.xs.pk = ⟨#[112]⟩ := EP.out
    rw [hp] at this
    exact this)
  have g1 := (B1.out.keep K46.out).keep hk7
  have g2 := B2.out.keep hk7
  have p0 := g1.cell 0 rfl; have p1 := g1.cell 1 rfl; have p2 := g1.cell 2 rfl
  have q0 := g2.cell 0 rfl; have q1 := g2.cell 1 rfl; have q2 := g2.cell 2 rfl
  clear y0 y1 y2 hk7 v1 v2 g1 g2
  go_wp2_with fail
  refine CS.out.mono ?_
  rintro e W8 ⟨rfl, hk8⟩
  have HK8 := Lib.hid (Kp.trans HK7.out hk8)
  have AW := Lib.hid (awake5_any (HG.out.kp' HK8.out) (tab_keep HT.out HK8.out))
  clear p0 p1 p2 q0 q1 q2 hk8
  go_wp2_with fail
  refine AW.out.mono ?_
  rintro e W9 ⟨rfl, hk9⟩
  have HK9 := Lib.hid (Kp.trans HK8.out hk9)
  clear hk9
  go_wp2_with fail
  go_ret
  exact ⟨rfl, HK9.out⟩
set_option maxRecDepth 100000 in
set_option maxHeartbeats 4000000 in
theorem parens_lt {w : World} (hG : Glob w) (hT : Tab10 w) (a : Nat) (ha : a < 256) (b : Nat) (hb : b < 256) (hc : ¬ (lvl (a % 7) = 1 ∧ lvl (b % 7) = 1)) (hlt : lvl (a % 7) < lvl (b % 7)) (hone : lvl (a % 7) ≠ 1) (x : Nat) (hx : x < 65536) (y : Nat) (hy : y < 65536) (z : Nat) (hz : z < 65536) : Calls Tryz.prog 6 #[.int .u8 (a : Nat), .int .u8 (b : Nat), .int .u16 (x : Nat), .int .u16 (y : Nat), .int .u16 (z : Nat)] w fun e w' => e = .returned (.bool true) ∧ Kp w w' := by
  have HG := Lib.hid hG; have HT := Lib.hid hT
  obtain ⟨i, hi⟩ : ∃ j, j = a % 7 := ⟨_, rfl⟩
  obtain ⟨k, hk⟩ : ∃ j, j = b % 7 := ⟨_, rfl⟩
  have ea : (a : Int) % 7 = (i : Int) := by omega
  have eb : (b : Int) % 7 = (k : Int) := by omega
  have ea' : a % 7 = i := by omega
  have eb' : b % 7 = k := by omega
  have hi7 : i < 7 := by omega
  have hk7 : k < 7 := by omega
  obtain ⟨W1, hW1⟩ : ∃ W1, W1 = w.alloc (Obj.cells #[.string ⟨#[43]⟩, .string ⟨#[45]⟩, .string ⟨#[42]⟩, .string ⟨#[47]⟩, .string ⟨#[37]⟩, .string ⟨#[60]⟩, .string ⟨#[61, 61]⟩] 9) := ⟨_, rfl⟩
  obtain ⟨W2, hW2⟩ : ∃ W2, W2 = W1.alloc (Obj.cells #[.int .i64 2, .int .i64 2, .int .i64 3, .int .i64 3, .int .i64 3, .int .i64 1, .int .i64 1] 3) := ⟨_, rfl⟩
  have k1 : Kp w W1 := by rw [hW1]; exact kp_alloc _ _
  have k2 : Kp W1 W2 := by rw [hW2]; exact kp_alloc _ _
  have K2 := Lib.hid (Kp.trans k1 k2)
  have b1 := Blk.new w 9 #[.string ⟨#[43]⟩, .string ⟨#[45]⟩, .string ⟨#[42]⟩, .string ⟨#[47]⟩, .string ⟨#[37]⟩, .string ⟨#[60]⟩, .string ⟨#[61, 61]⟩]
  rw [← hW1] at b1
  have b2 := Blk.new W1 3 #[.int .i64 2, .int .i64 2, .int .i64 3, .int .i64 3, .int .i64 3, .int .i64 1, .int .i64 1]
  rw [← hW2] at b2
  have z1 : W1.heap.size = w.heap.size + 1 := by rw [hW1]; simp
  have b1 := b1.keep k2
  have s1 := b1.cell i (opW_at hi7)
  have s2 := b1.cell k (opW_at hk7)
  have l1 := b2.cell i (lvl_at hi7)
  have l2 := b2.cell k (lvl_at hk7)
  rw [z1] at l1 l2
  have HW : Hid (W2 = (w.alloc (Obj.cells #[.string ⟨#[43]⟩, .string ⟨#[45]⟩, .string ⟨#[42]⟩, .string ⟨#[47]⟩, .string ⟨#[37]⟩, .string ⟨#[60]⟩, .string ⟨#[61, 61]⟩] 9)).alloc (Obj.cells #[.int .i64 2, .int .i64 2, .int .i64 3, .int .i64 3, .int .i64 3, .int .i64 1, .int .i64 1] 3)) := Lib.hid (by rw [hW2, hW1])
  have HL1 := Lib.hid l1; have HL2 := Lib.hid l2; have HS1 := Lib.hid s1; have HS2 := Lib.hid s2
  clear s1 s2 hi hk hG hT k1 k2 b1 b2 z1 hW1 hW2
  have hoi := opW_len i; have hok := opW_len k
  rw [ea', eb'] at hc hlt
  rw [ea'] at hone
  have hl1 : 1 ≤ lvl i ∧ lvl i ≤ 3 := lvl_in _
  have hl2 : 1 ≤ lvl k ∧ lvl k ≤ 3 := lvl_in _
  have lp := (digF_len 4 x).2; have lq := (digF_len 4 y).2; have lr := (digF_len 4 z).2
  obtain ⟨P, hP⟩ : ∃ S, S = st (digF 4 x) := ⟨_, rfl⟩
  obtain ⟨Q, hQ⟩ : ∃ S, S = st (digF 4 y) := ⟨_, rfl⟩
  obtain ⟨R, hR⟩ : ∃ S, S = st (digF 4 z) := ⟨_, rfl⟩
  obtain ⟨O1, hO1⟩ : ∃ S, S = st (opW i) := ⟨_, rfl⟩
  obtain ⟨O2, hO2⟩ : ∃ S, S = st (opW k) := ⟨_, rfl⟩
  have DX := Lib.hid (Digits_x 4 x (by omega) (by omega)); have DY := Lib.hid (Digits_x 4 y (by omega) (by omega)); have DZ := Lib.hid (Digits_x 4 z (by omega) (by omega))
  rw [← hP] at DX
  rw [← hQ] at DY
  rw [← hR] at DZ
  obtain ⟨A1, hA1⟩ : ∃ S, S = st ((digF 4 x) ++ [32]) := ⟨_, rfl⟩
  have fA1 : ∀ w, (Op.stringOp .add P ⟨#[32]⟩).run Tryz.prog w = .ok (.string A1) w := fun w => by
    rw [hA1, hP]
    exact add_st6 (a := (digF 4 x)) (b := [32]) (by
      try simp only [preD, List.length_append, List.length_cons, List.length_nil]
      omega) w
  obtain ⟨A2, hA2⟩ : ∃ S, S = st (((digF 4 x) ++ [32]) ++ (opW i)) := ⟨_, rfl⟩
  have fA2 : ∀ w, (Op.stringOp .add A1 O1).run Tryz.prog w = .ok (.string A2) w := fun w => by
    rw [hA2, hA1, hO1]
    exact add_st6 (a := ((digF 4 x) ++ [32])) (b := (opW i)) (by
      try simp only [preD, List.length_append, List.length_cons, List.length_nil]
      omega) w
  obtain ⟨A3, hA3⟩ : ∃ S, S = st ((((digF 4 x) ++ [32]) ++ (opW i)) ++ [32]) := ⟨_, rfl⟩
  have fA3 : ∀ w, (Op.stringOp .add A2 ⟨#[32]⟩).run Tryz.prog w = .ok (.string A3) w := fun w => by
    rw [hA3, hA2]
    exact add_st6 (a := (((digF 4 x) ++ [32]) ++ (opW i))) (b := [32]) (by
      try simp only [preD, List.length_append, List.length_cons, List.length_nil]
      omega) w
  obtain ⟨A4, hA4⟩ : ∃ S, S = st (((((digF 4 x) ++ [32]) ++ (opW i)) ++ [32]) ++ (digF 4 y)) := ⟨_, rfl⟩
  have fA4 : ∀ w, (Op.stringOp .add A3 Q).run Tryz.prog w = .ok (.string A4) w := fun w => by
    rw [hA4, hA3, hQ]
    exact add_st6 (a := ((((digF 4 x) ++ [32]) ++ (opW i)) ++ [32])) (b := (digF 4 y)) (by
      try simp only [preD, List.length_append, List.length_cons, List.length_nil]
      omega) w
  obtain ⟨A5, hA5⟩ : ∃ S, S = st ((((((digF 4 x) ++ [32]) ++ (opW i)) ++ [32]) ++ (digF 4 y)) ++ [32]) := ⟨_, rfl⟩
  have fA5 : ∀ w, (Op.stringOp .add A4 ⟨#[32]⟩).run Tryz.prog w = .ok (.string A5) w := fun w => by
    rw [hA5, hA4]
    exact add_st6 (a := (((((digF 4 x) ++ [32]) ++ (opW i)) ++ [32]) ++ (digF 4 y))) (b := [32]) (by
      try simp only [preD, List.length_append, List.length_cons, List.length_nil]
      omega) w
  obtain ⟨A6, hA6⟩ : ∃ S, S = st (((((((digF 4 x) ++ [32]) ++ (opW i)) ++ [32]) ++ (digF 4 y)) ++ [32]) ++ (opW k)) := ⟨_, rfl⟩
  have fA6 : ∀ w, (Op.stringOp .add A5 O2).run Tryz.prog w = .ok (.string A6) w := fun w => by
    rw [hA6, hA5, hO2]
    exact add_st6 (a := ((((((digF 4 x) ++ [32]) ++ (opW i)) ++ [32]) ++ (digF 4 y)) ++ [32])) (b := (opW k)) (by
      try simp only [preD, List.length_append, List.length_cons, List.length_nil]
      omega) w
  obtain ⟨A7, hA7⟩ : ∃ S, S = st ((((((((digF 4 x) ++ [32]) ++ (opW i)) ++ [32]) ++ (digF 4 y)) ++ [32]) ++ (opW k)) ++ [32]) := ⟨_, rfl⟩
  have fA7 : ∀ w, (Op.stringOp .add A6 ⟨#[32]⟩).run Tryz.prog w = .ok (.string A7) w := fun w => by
    rw [hA7, hA6]
    exact add_st6 (a := (((((((digF 4 x) ++ [32]) ++ (opW i)) ++ [32]) ++ (digF 4 y)) ++ [32]) ++ (opW k))) (b := [32]) (by
      try simp only [preD, List.length_append, List.length_cons, List.length_nil]
      omega) w
  obtain ⟨A8, hA8⟩ : ∃ S, S = st (((((((((digF 4 x) ++ [32]) ++ (opW i)) ++ [32]) ++ (digF 4 y)) ++ [32]) ++ (opW k)) ++ [32]) ++ (digF 4 z)) := ⟨_, rfl⟩
  have fA8 : ∀ w, (Op.stringOp .add A7 R).run Tryz.prog w = .ok (.string A8) w := fun w => by
    rw [hA8, hA7, hR]
    exact add_st6 (a := ((((((((digF 4 x) ++ [32]) ++ (opW i)) ++ [32]) ++ (digF 4 y)) ++ [32]) ++ (opW k)) ++ [32])) (b := (digF 4 z)) (by
      try simp only [preD, List.length_append, List.length_cons, List.length_nil]
      omega) w
  obtain ⟨B1, hB1⟩ : ∃ S, S = st ([40] ++ (digF 4 x)) := ⟨_, rfl⟩
  have fB1 : ∀ w, (Op.stringOp .add ⟨#[40]⟩ P).run Tryz.prog w = .ok (.string B1) w := fun w => by
    rw [hB1, hP]
    exact add_st6 (a := [40]) (b := (digF 4 x)) (by
      try simp only [preD, List.length_append, List.length_cons, List.length_nil]
      omega) w
  obtain ⟨B2, hB2⟩ : ∃ S, S = st (([40] ++ (digF 4 x)) ++ (opW i)) := ⟨_, rfl⟩
  have fB2 : ∀ w, (Op.stringOp .add B1 O1).run Tryz.prog w = .ok (.string B2) w := fun w => by
    rw [hB2, hB1, hO1]
    exact add_st6 (a := ([40] ++ (digF 4 x))) (b := (opW i)) (by
      try simp only [preD, List.length_append, List.length_cons, List.length_nil]
      omega) w
  obtain ⟨B3, hB3⟩ : ∃ S, S = st ((([40] ++ (digF 4 x)) ++ (opW i)) ++ (digF 4 y)) := ⟨_, rfl⟩
  have fB3 : ∀ w, (Op.stringOp .add B2 Q).run Tryz.prog w = .ok (.string B3) w := fun w => by
    rw [hB3, hB2, hQ]
    exact add_st6 (a := (([40] ++ (digF 4 x)) ++ (opW i))) (b := (digF 4 y)) (by
      try simp only [preD, List.length_append, List.length_cons, List.length_nil]
      omega) w
  obtain ⟨B4, hB4⟩ : ∃ S, S = st (((([40] ++ (digF 4 x)) ++ (opW i)) ++ (digF 4 y)) ++ [41]) := ⟨_, rfl⟩
  have fB4 : ∀ w, (Op.stringOp .add B3 ⟨#[41]⟩).run Tryz.prog w = .ok (.string B4) w := fun w => by
    rw [hB4, hB3]
    exact add_st6 (a := ((([40] ++ (digF 4 x)) ++ (opW i)) ++ (digF 4 y))) (b := [41]) (by
      try simp only [preD, List.length_append, List.length_cons, List.length_nil]
      omega) w
  obtain ⟨B5, hB5⟩ : ∃ S, S = st ((((([40] ++ (digF 4 x)) ++ (opW i)) ++ (digF 4 y)) ++ [41]) ++ (opW k)) := ⟨_, rfl⟩
  have fB5 : ∀ w, (Op.stringOp .add B4 O2).run Tryz.prog w = .ok (.string B5) w := fun w => by
    rw [hB5, hB4, hO2]
    exact add_st6 (a := (((([40] ++ (digF 4 x)) ++ (opW i)) ++ (digF 4 y)) ++ [41])) (b := (opW k)) (by
      try simp only [preD, List.length_append, List.length_cons, List.length_nil]
      omega) w
  obtain ⟨B6, hB6⟩ : ∃ S, S = st (((((([40] ++ (digF 4 x)) ++ (opW i)) ++ (digF 4 y)) ++ [41]) ++ (opW k)) ++ (digF 4 z)) := ⟨_, rfl⟩
  have fB6 : ∀ w, (Op.stringOp .add B5 R).run Tryz.prog w = .ok (.string B6) w := fun w => by
    rw [hB6, hB5, hR]
    exact add_st6 (a := ((((([40] ++ (digF 4 x)) ++ (opW i)) ++ (digF 4 y)) ++ [41]) ++ (opW k))) (b := (digF 4 z)) (by
      try simp only [preD, List.length_append, List.length_cons, List.length_nil]
      omega) w
  obtain ⟨C1, hC1⟩ : ∃ S, S = st ((digF 4 x) ++ (opW i)) := ⟨_, rfl⟩
  have fC1 : ∀ w, (Op.stringOp .add P O1).run Tryz.prog w = .ok (.string C1) w := fun w => by
    rw [hC1, hP, hO1]
    exact add_st6 (a := (digF 4 x)) (b := (opW i)) (by
      try simp only [preD, List.length_append, List.length_cons, List.length_nil]
      omega) w
  obtain ⟨C2, hC2⟩ : ∃ S, S = st (((digF 4 x) ++ (opW i)) ++ [40]) := ⟨_, rfl⟩
  have fC2 : ∀ w, (Op.stringOp .add C1 ⟨#[40]⟩).run Tryz.prog w = .ok (.string C2) w := fun w => by
    rw [hC2, hC1]
    exact add_st6 (a := ((digF 4 x) ++ (opW i))) (b := [40]) (by
      try simp only [preD, List.length_append, List.length_cons, List.length_nil]
      omega) w
  obtain ⟨C3, hC3⟩ : ∃ S, S = st ((((digF 4 x) ++ (opW i)) ++ [40]) ++ (digF 4 y)) := ⟨_, rfl⟩
  have fC3 : ∀ w, (Op.stringOp .add C2 Q).run Tryz.prog w = .ok (.string C3) w := fun w => by
    rw [hC3, hC2, hQ]
    exact add_st6 (a := (((digF 4 x) ++ (opW i)) ++ [40])) (b := (digF 4 y)) (by
      try simp only [preD, List.length_append, List.length_cons, List.length_nil]
      omega) w
  obtain ⟨C4, hC4⟩ : ∃ S, S = st (((((digF 4 x) ++ (opW i)) ++ [40]) ++ (digF 4 y)) ++ (opW k)) := ⟨_, rfl⟩
  have fC4 : ∀ w, (Op.stringOp .add C3 O2).run Tryz.prog w = .ok (.string C4) w := fun w => by
    rw [hC4, hC3, hO2]
    exact add_st6 (a := ((((digF 4 x) ++ (opW i)) ++ [40]) ++ (digF 4 y))) (b := (opW k)) (by
      try simp only [preD, List.length_append, List.length_cons, List.length_nil]
      omega) w
  obtain ⟨C5, hC5⟩ : ∃ S, S = st ((((((digF 4 x) ++ (opW i)) ++ [40]) ++ (digF 4 y)) ++ (opW k)) ++ (digF 4 z)) := ⟨_, rfl⟩
  have fC5 : ∀ w, (Op.stringOp .add C4 R).run Tryz.prog w = .ok (.string C5) w := fun w => by
    rw [hC5, hC4, hR]
    exact add_st6 (a := (((((digF 4 x) ++ (opW i)) ++ [40]) ++ (digF 4 y)) ++ (opW k))) (b := (digF 4 z)) (by
      try simp only [preD, List.length_append, List.length_cons, List.length_nil]
      omega) w
  obtain ⟨C6, hC6⟩ : ∃ S, S = st (((((((digF 4 x) ++ (opW i)) ++ [40]) ++ (digF 4 y)) ++ (opW k)) ++ (digF 4 z)) ++ [41]) := ⟨_, rfl⟩
  have fC6 : ∀ w, (Op.stringOp .add C5 ⟨#[41]⟩).run Tryz.prog w = .ok (.string C6) w := fun w => by
    rw [hC6, hC5]
    exact add_st6 (a := ((((((digF 4 x) ++ (opW i)) ++ [40]) ++ (digF 4 y)) ++ (opW k)) ++ (digF 4 z))) (b := [41]) (by
      try simp only [preD, List.length_append, List.length_cons, List.length_nil]
      omega) w
  obtain ⟨D1, hD1⟩ : ∃ S, S = st (preD ++ (((((((((digF 4 x) ++ [32]) ++ (opW i)) ++ [32]) ++ (digF 4 y)) ++ [32]) ++ (opW k)) ++ [32]) ++ (digF 4 z))) := ⟨_, rfl⟩
  have fD1 : ∀ w, (Op.stringOp .add ⟨#[112, 97, 99, 107, 97, 103, 101, 32, 112, 59, 32, 116, 101, 115, 116, 32, 116, 32, 61, 32]⟩ A8).run Tryz.prog w = .ok (.string D1) w := fun w => by
    rw [hD1, hA8]
    exact add_st6 (a := preD) (b := (((((((((digF 4 x) ++ [32]) ++ (opW i)) ++ [32]) ++ (digF 4 y)) ++ [32]) ++ (opW k)) ++ [32]) ++ (digF 4 z))) (by
      try simp only [preD, List.length_append, List.length_cons, List.length_nil]
      omega) w
  obtain ⟨D2, hD2⟩ : ∃ S, S = st ((preD ++ (((((((((digF 4 x) ++ [32]) ++ (opW i)) ++ [32]) ++ (digF 4 y)) ++ [32]) ++ (opW k)) ++ [32]) ++ (digF 4 z))) ++ [59]) := ⟨_, rfl⟩
  have fD2 : ∀ w, (Op.stringOp .add D1 ⟨#[59]⟩).run Tryz.prog w = .ok (.string D2) w := fun w => by
    rw [hD2, hD1]
    exact add_st6 (a := (preD ++ (((((((((digF 4 x) ++ [32]) ++ (opW i)) ++ [32]) ++ (digF 4 y)) ++ [32]) ++ (opW k)) ++ [32]) ++ (digF 4 z)))) (b := [59]) (by
      try simp only [preD, List.length_append, List.length_cons, List.length_nil]
      omega) w
  obtain ⟨E1, hE1⟩ : ∃ S, S = st ((preD ++ [40, 40]) ++ (((((((digF 4 x) ++ (opW i)) ++ [40]) ++ (digF 4 y)) ++ (opW k)) ++ (digF 4 z)) ++ [41])) := ⟨_, rfl⟩
  have fE1 : ∀ w, (Op.stringOp .add ⟨#[112, 97, 99, 107, 97, 103, 101, 32, 112, 59, 32, 116, 101, 115, 116, 32, 116, 32, 61, 32, 40, 40]⟩ C6).run Tryz.prog w = .ok (.string E1) w := fun w => by
    rw [hE1, hC6]
    exact add_st6 (a := (preD ++ [40, 40])) (b := (((((((digF 4 x) ++ (opW i)) ++ [40]) ++ (digF 4 y)) ++ (opW k)) ++ (digF 4 z)) ++ [41])) (by
      try simp only [preD, List.length_append, List.length_cons, List.length_nil]
      omega) w
  obtain ⟨E2, hE2⟩ : ∃ S, S = st (((preD ++ [40, 40]) ++ (((((((digF 4 x) ++ (opW i)) ++ [40]) ++ (digF 4 y)) ++ (opW k)) ++ (digF 4 z)) ++ [41])) ++ [41, 41, 59]) := ⟨_, rfl⟩
  have fE2 : ∀ w, (Op.stringOp .add E1 ⟨#[41, 41, 59]⟩).run Tryz.prog w = .ok (.string E2) w := fun w => by
    rw [hE2, hE1]
    exact add_st6 (a := ((preD ++ [40, 40]) ++ (((((((digF 4 x) ++ (opW i)) ++ [40]) ++ (digF 4 y)) ++ (opW k)) ++ (digF 4 z)) ++ [41]))) (b := [41, 41, 59]) (by
      try simp only [preD, List.length_append, List.length_cons, List.length_nil]
      omega) w
  obtain ⟨G1, hG1⟩ : ∃ S, S = st ([112, 97, 99, 107, 97, 103, 101, 32, 112, 59, 10, 116, 101, 115, 116, 32, 116, 32, 61, 32] ++ (((((((((digF 4 x) ++ [32]) ++ (opW i)) ++ [32]) ++ (digF 4 y)) ++ [32]) ++ (opW k)) ++ [32]) ++ (digF 4 z))) := ⟨_, rfl⟩
  have fG1 : ∀ w, (Op.stringOp .add ⟨#[112, 97, 99, 107, 97, 103, 101, 32, 112, 59, 10, 116, 101, 115, 116, 32, 116, 32, 61, 32]⟩ A8).run Tryz.prog w = .ok (.string G1) w := fun w => by
    rw [hG1, hA8]
    exact add_st6 (a := [112, 97, 99, 107, 97, 103, 101, 32, 112, 59, 10, 116, 101, 115, 116, 32, 116, 32, 61, 32]) (b := (((((((((digF 4 x) ++ [32]) ++ (opW i)) ++ [32]) ++ (digF 4 y)) ++ [32]) ++ (opW k)) ++ [32]) ++ (digF 4 z))) (by
      try simp only [preD, List.length_append, List.length_cons, List.length_nil]
      omega) w
  obtain ⟨G2, hG2⟩ : ∃ S, S = st (([112, 97, 99, 107, 97, 103, 101, 32, 112, 59, 10, 116, 101, 115, 116, 32, 116, 32, 61, 32] ++ (((((((((digF 4 x) ++ [32]) ++ (opW i)) ++ [32]) ++ (digF 4 y)) ++ [32]) ++ (opW k)) ++ [32]) ++ (digF 4 z))) ++ [59, 10]) := ⟨_, rfl⟩
  have fG2 : ∀ w, (Op.stringOp .add G1 ⟨#[59, 10]⟩).run Tryz.prog w = .ok (.string G2) w := fun w => by
    rw [hG2, hG1]
    exact add_st6 (a := ([112, 97, 99, 107, 97, 103, 101, 32, 112, 59, 10, 116, 101, 115, 116, 32, 116, 32, 61, 32] ++ (((((((((digF 4 x) ++ [32]) ++ (opW i)) ++ [32]) ++ (digF 4 y)) ++ [32]) ++ (opW k)) ++ [32]) ++ (digF 4 z)))) (b := [59, 10]) (by
      try simp only [preD, List.length_append, List.length_cons, List.length_nil]
      omega) w
  obtain ⟨SR, hSR⟩ : ∃ S, S = srcP i k x y z := ⟨_, rfl⟩
  obtain ⟨RR, hRR⟩ : ∃ R : SrcN.Src × Nat × Nat, R = (SR, 0, 0) := ⟨_, rfl⟩
  have HSH : Hid (shortS SR = true) := Lib.hid (by rw [hSR]; exact shortP _ _ _ _ _)
  have hd1 := digF_lt hx; have hd2 := digF_lt hy; have hd3 := digF_lt hz
  have hpre : Lt preD := const_lt (by decide)
  have CP1 : Hid (∀ W, Kp w W → Calls Tryz.prog 18 #[.string D2] W (AnsP RR W)) := Lib.hid (fun W hk => by
    rw [hD2, hRR, hSR]
    exact parse_st ((hpre.append ((((((((hd1.append (const_lt (x := [32]) (by decide))).append opW_lt).append (const_lt (x := [32]) (by decide))).append hd2).append (const_lt (x := [32]) (by decide))).append opW_lt).append (const_lt (x := [32]) (by decide))).append hd3)).append (const_lt (x := [59]) (by decide))) (HG.out.kp' hk) (parse1 hi7 hk7 hc (digL hx) (digL hy) (digL hz)))
  have hfull : (((((((digF 4 x) ++ (opW i)) ++ [40]) ++ (digF 4 y)) ++ (opW k)) ++ (digF 4 z)) ++ [41]) = fullT i k (digF 4 x) (digF 4 y) (digF 4 z) := by
    unfold fullT
    rw [if_pos hlt]
  have CP2 : Hid (∀ W, Kp w W → Calls Tryz.prog 18 #[.string E2] W (AnsP RR W)) := Lib.hid (fun W hk => by
    rw [hE2, hRR, hSR, hfull]
    refine parse_st ?_ (HG.out.kp' hk) (parse2 hi7 hk7 hc (digL hx) (digL hy) (digL hz))
    refine ((hpre.append (const_lt (x := [40, 40]) (by decide))).append ?_).append (const_lt (x := [41, 41, 59]) (by decide))
    unfold fullT
    rw [if_pos hlt]
    exact (((((hd1.append opW_lt).append (const_lt (x := [40]) (by decide))).append hd2).append opW_lt).append hd3).append (const_lt (x := [41]) (by decide)))
  have CF : Hid (∀ W iv dv, Kp w W → SrcV W iv dv SR.xs → CapD W dv → Calls Tryz.prog 13 #[.agg #[.string ⟨#[112]⟩, iv, dv]] W fun e w' => e = .returned (.tuple #[.string G2, .int .i64 0]) ∧ Kp W w') := Lib.hid (fun W iv dv hk hv hcap => by
    rw [hSR] at hv
    have := Format_ok (f := (srcP i k x y z).xs) (ds := [treP i k x y z]) (n := 60) (R := (srcP i k x y z, 0, 0)) (HG.out.kp' hk) (tab_keep HT.out hk) hv hcap (by show 0 < 1000000; decide) (chkP hi7 hk7 hx hy hz) (dcP _ _ _ _ _) (fun d hd => by
      obtain rfl : d = treP i k x y z := by simpa using hd
      exact ⟨.inr (.inl rfl), okP hi7 hk7 hx hy hz⟩) (textP hi7 hk7 hc hx hy hz) (by
        rw [text3]
        simp only [List.length_append, List.length_cons, List.length_nil]; omega) (parse3 hi7 hk7 hc (digL hx) (digL hy) (digL hz))
    rw [if_pos rfl, text3, ← hG2] at this
    exact this)
  have ER : Hid (RR.1 = SR) := Lib.hid (by rw [hRR])
  have EP : Hid (st SR.pk = ⟨#[112]⟩) := Lib.hid (by rw [hSR]; rfl)
  have EI : Hid (SR.im.length = 0) := Lib.hid (by rw [hSR]; rfl)
  have ED : Hid (SR.dc.length = 1) := Lib.hid (by rw [hSR]; rfl)
  have EA : Hid (RR.2.1 = 0) := Lib.hid (by rw [hRR])
  have EE : Hid (RR.2.2 = 0) := Lib.hid (by rw [hRR])
  obtain ⟨LI, hLI⟩ : ∃ z, z = lvl i := ⟨_, rfl⟩
  obtain ⟨LK, hLK⟩ : ∃ z, z = lvl k := ⟨_, rfl⟩
  rw [← hLI] at hl1 hlt hone l1 HL1 hc
  rw [← hLK] at hl2 hlt l2 HL2 hc
  have lo1 := hl1.1; have lo2 := hl1.2; have lo3 := hl2.1; have lo4 := hl2.2
  have t1 : ((LI : Int) == 1) = false := by
    have : (LI : Int) ≠ 1 := by omega
    simpa using this
  have t3 : decide (LI < LK) = true := decide_eq_true (by omega)
  have t4 : decide (((LI : Nat) : Int) < (LK : Int)) = true := decide_eq_true (by omega)
  have s1 := HS1.out; have s2 := HS2.out
  rw [← hO1] at s1
  rw [← hO2] at s2
  have X1 := Lib.hid s1; have X2 := Lib.hid s2
  rw [HW.out] at l1 l2
  clear hP hQ hR hO1 hO2 hA1 hA2 hA3 hA4 hA5 hA6 hA7 hA8 hB1 hB2 hB3 hB4 hB5 hB6 hC1 hC2 hC3 hC4 hC5 hC6 hD1 hD2 hE1 hE2 hG1 hG2 hRR hSR hd1 hd2 hd3 hpre hfull hLI hLK hl1 hl2 hlt hone hc hoi hok lp lq lr HS1 HS2
  go_enter Tryz.func6, Tryz.ntmps6
  clear s1 s2
  go_wp2_with fail
  rw [← HW.out]
  clear l1 l2
  refine (DX.out _).mono ?_
  rintro e w' ⟨rfl, rfl⟩
  go_wp2_with fail
  refine (DY.out _).mono ?_
  rintro e w' ⟨rfl, rfl⟩
  go_wp2_with fail
  refine (DZ.out _).mono ?_
  rintro e w' ⟨rfl, rfl⟩
  have s1 := X1.out; have s2 := X2.out
  have l1 := HL1.out; have l2 := HL2.out
  go_wp2_with fail
  have KQ0 : Hid (Kp W2 W2) := Lib.hid (Kp.refl _)
  go_quiet (fail)
  have KQ1 : Hid (Kp W2 (W2.drewN nq)) := Lib.hid (Kp.trans KQ0.out (Kp.drewN _ _))
  generalize W2.drewN nq = Wq1 at KQ1 ⊢
  clear s1 s2 l1 l2
  have s1 := cell_kept X1.out KQ1.out
  have s2 := cell_kept X2.out KQ1.out
  have l1 := cell_kept HL1.out KQ1.out
  have l2 := cell_kept HL2.out KQ1.out
  go_wp2_with fail
  go_quiet (fail)
  have KQ2 : Hid (Kp W2 (Wq1.drewN nq)) := Lib.hid (Kp.trans KQ1.out (Kp.drewN _ _))
  generalize Wq1.drewN nq = Wq2 at KQ2 ⊢
  clear s1 s2 l1 l2
  have s1 := cell_kept X1.out KQ2.out
  have s2 := cell_kept X2.out KQ2.out
  have l1 := cell_kept HL1.out KQ2.out
  have l2 := cell_kept HL2.out KQ2.out
  go_wp2_with fail
  go_quiet (fail)
  have KQ3 : Hid (Kp W2 (Wq2.drewN nq)) := Lib.hid (Kp.trans KQ2.out (Kp.drewN _ _))
  generalize Wq2.drewN nq = Wq3 at KQ3 ⊢
  clear s1 s2 l1 l2
  have s1 := cell_kept X1.out KQ3.out
  have s2 := cell_kept X2.out KQ3.out
  have l1 := cell_kept HL1.out KQ3.out
  have l2 := cell_kept HL2.out KQ3.out
  go_wp2_with fail
  go_quiet (fail)
  have KQ4 : Hid (Kp W2 (Wq3.drewN nq)) := Lib.hid (Kp.trans KQ3.out (Kp.drewN _ _))
  generalize Wq3.drewN nq = Wq4 at KQ4 ⊢
  clear s1 s2 l1 l2
  go_wp2_with fail
  have HK2 := Lib.hid (Kp.trans K2.out KQ4.out)
  refine (CP1.out _ HK2.out).mono ?_
  rintro e W3 ⟨iv, dv, xs, rfl, hsrc, hk3⟩
  have V1 := Lib.hid (hsrc.v (by rw [ER.out]; exact HSH.out))
  obtain ⟨D, hs1, hs2, -, -⟩ := hsrc.ex
  obtain ⟨io, ic', hiv⟩ := row_open hs1.own
  obtain ⟨do', dc', hdv⟩ := row_open hs2.row.own
  have HK3 := Lib.hid (Kp.trans HK2.out hk3)
  rw [ER.out] at hiv hdv V1
  rw [EI.out] at hiv
  rw [ED.out] at hdv
  rw [ER.out, EP.out, EA.out, EE.out]
  subst hiv hdv
  obtain ⟨W4, hW4⟩ : ∃ W, W = W3.alloc (Obj.cells #[.string ⟨#[112]⟩, .slice io (0 : Nat) ic', .slice do' (1 : Nat) dc'] 29) := ⟨_, rfl⟩
  have HW4 := Lib.hid hW4
  have K34 : Hid (Kp W3 W4) := Lib.hid (by rw [hW4]; exact kp_alloc _ _)
  have HK4 := Lib.hid (Kp.trans HK3.out K34.out)
  have B1 : Hid (Blk W4 W3.heap.size 29 #[.string ⟨#[112]⟩, .slice io (0 : Nat) ic', .slice do' (1 : Nat) dc']) := Lib.hid (by rw [hW4]; exact Blk.new _ _ _)
  clear hsrc hk3 hs1 hs2 hW4
  go_wp2_with fail
  rw [← HW4.out]
  refine (CP2.out _ HK4.out).mono ?_
  rintro e W5 ⟨iv2, dv2, xs2, rfl, hsrc, hk5⟩
  have hsrc0 := hsrc
  obtain ⟨D, hs1, hs2, -, -⟩ := hsrc.ex
  obtain ⟨io2, ic2, hiv⟩ := row_open hs1.own
  obtain ⟨do2, dc2, hdv⟩ := row_open hs2.row.own
  have K35 := Lib.hid (Kp.trans K34.out hk5)
  have HK5 := Lib.hid (Kp.trans HK4.out hk5)
  rw [ER.out] at hiv hdv
  rw [EI.out] at hiv
  rw [ED.out] at hdv
  rw [ER.out, EP.out, EA.out, EE.out]
  subst hiv hdv
  obtain ⟨W6, hW6⟩ : ∃ W, W = W5.alloc (Obj.cells #[.string ⟨#[112]⟩, .slice io2 (0 : Nat) ic2, .slice do2 (1 : Nat) dc2] 29) := ⟨_, rfl⟩
  have HW6 := Lib.hid hW6
  have k56 : Kp W5 W6 := by rw [hW6]; exact kp_alloc _ _
  have K46 := Lib.hid (Kp.trans hk5 k56)
  have K36 := Lib.hid (Kp.trans K35.out k56)
  have HK6 := Lib.hid (Kp.trans HK5.out k56)
  have b2 : Blk W6 W5.heap.size 29 #[.string ⟨#[112]⟩, .slice io2 (0 : Nat) ic2, .slice do2 (1 : Nat) dc2] := by rw [hW6]; exact Blk.new _ _ _
  have B2 := Lib.hid b2
  have hsrc6 := hsrc0.turn (F2 := fun b => b < W4.heap.size) (k56.keep (fun b hb => hb.2)) (fun b hb => hb)
  have V2 := Lib.hid (hsrc6.v (by rw [ER.out]; exact HSH.out))
  have C2 := Lib.hid hsrc6.cap
  rw [ER.out] at V2
  have CF1 := Lib.hid (CF.out _ _ _ HK6.out V2.out C2.out)
  have y0 := b2.cell 0 rfl; have y1 := b2.cell 1 rfl; have y2 := b2.cell 2 rfl
  rw [hW6] at y0 y1 y2
  clear hsrc hsrc0 hsrc6 hk5 hs1 hs2 hW6 b2 k56
  go_wp2_with fail
  rw [← HW6.out]
  refine CF1.out.mono ?_
  rintro e W7 ⟨rfl, hk7⟩
  have K67 := Lib.hid hk7
  have HK7 := Lib.hid (Kp.trans HK6.out hk7)
  have v1 := V1.out.kp (Kp.trans K36.out hk7)
  have v2 := V2.out.kp hk7
  have CS : Hid (Calls Tryz.prog 12 #[.agg #[.string ⟨#[112]⟩, .slice io (0 : Nat) ic', .slice do' (1 : Nat) dc'], .agg #[.string ⟨#[112]⟩, .slice io2 (0 : Nat) ic2, .slice do2 (1 : Nat) dc2]] W7 fun e W' => e = .returned (.bool true) ∧ Kp W7 W') := Lib.hid (by
    have := Same_eq v1 v2
    have hp : st SR.xs.pk = ⟨#[112]⟩ := EP.out
    rw [hp] at this
    exact this)
  have g1 := (B1.out.keep K46.out).keep hk7
  have g2 := B2.out.keep hk7
  have p0 := g1.cell 0 rfl; have p1 := g1.cell 1 rfl; have p2 := g1.cell 2 rfl
  have q0 := g2.cell 0 rfl; have q1 := g2.cell 1 rfl; have q2 := g2.cell 2 rfl
  clear y0 y1 y2 hk7 v1 v2 g1 g2
  go_wp2_with fail
  refine CS.out.mono ?_
  rintro e W8 ⟨rfl, hk8⟩
  have HK8 := Lib.hid (Kp.trans HK7.out hk8)
  have AW := Lib.hid (awake5_any (HG.out.kp' HK8.out) (tab_keep HT.out HK8.out))
  clear p0 p1 p2 q0 q1 q2 hk8
  go_wp2_with fail
  refine AW.out.mono ?_
  rintro e W9 ⟨rfl, hk9⟩
  have HK9 := Lib.hid (Kp.trans HK8.out hk9)
  clear hk9
  go_wp2_with fail
  go_ret
  exact ⟨rfl, HK9.out⟩
set_option maxRecDepth 100000 in
set_option maxHeartbeats 4000000 in
theorem parens_ge {w : World} (hG : Glob w) (hT : Tab10 w) (a : Nat) (ha : a < 256) (b : Nat) (hb : b < 256) (hc : ¬ (lvl (a % 7) = 1 ∧ lvl (b % 7) = 1)) (hlt : ¬ lvl (a % 7) < lvl (b % 7)) (hone : lvl (a % 7) ≠ 1) (x : Nat) (hx : x < 65536) (y : Nat) (hy : y < 65536) (z : Nat) (hz : z < 65536) : Calls Tryz.prog 6 #[.int .u8 (a : Nat), .int .u8 (b : Nat), .int .u16 (x : Nat), .int .u16 (y : Nat), .int .u16 (z : Nat)] w fun e w' => e = .returned (.bool true) ∧ Kp w w' := by
  have HG := Lib.hid hG; have HT := Lib.hid hT
  obtain ⟨i, hi⟩ : ∃ j, j = a % 7 := ⟨_, rfl⟩
  obtain ⟨k, hk⟩ : ∃ j, j = b % 7 := ⟨_, rfl⟩
  have ea : (a : Int) % 7 = (i : Int) := by omega
  have eb : (b : Int) % 7 = (k : Int) := by omega
  have ea' : a % 7 = i := by omega
  have eb' : b % 7 = k := by omega
  have hi7 : i < 7 := by omega
  have hk7 : k < 7 := by omega
  obtain ⟨W1, hW1⟩ : ∃ W1, W1 = w.alloc (Obj.cells #[.string ⟨#[43]⟩, .string ⟨#[45]⟩, .string ⟨#[42]⟩, .string ⟨#[47]⟩, .string ⟨#[37]⟩, .string ⟨#[60]⟩, .string ⟨#[61, 61]⟩] 9) := ⟨_, rfl⟩
  obtain ⟨W2, hW2⟩ : ∃ W2, W2 = W1.alloc (Obj.cells #[.int .i64 2, .int .i64 2, .int .i64 3, .int .i64 3, .int .i64 3, .int .i64 1, .int .i64 1] 3) := ⟨_, rfl⟩
  have k1 : Kp w W1 := by rw [hW1]; exact kp_alloc _ _
  have k2 : Kp W1 W2 := by rw [hW2]; exact kp_alloc _ _
  have K2 := Lib.hid (Kp.trans k1 k2)
  have b1 := Blk.new w 9 #[.string ⟨#[43]⟩, .string ⟨#[45]⟩, .string ⟨#[42]⟩, .string ⟨#[47]⟩, .string ⟨#[37]⟩, .string ⟨#[60]⟩, .string ⟨#[61, 61]⟩]
  rw [← hW1] at b1
  have b2 := Blk.new W1 3 #[.int .i64 2, .int .i64 2, .int .i64 3, .int .i64 3, .int .i64 3, .int .i64 1, .int .i64 1]
  rw [← hW2] at b2
  have z1 : W1.heap.size = w.heap.size + 1 := by rw [hW1]; simp
  have b1 := b1.keep k2
  have s1 := b1.cell i (opW_at hi7)
  have s2 := b1.cell k (opW_at hk7)
  have l1 := b2.cell i (lvl_at hi7)
  have l2 := b2.cell k (lvl_at hk7)
  rw [z1] at l1 l2
  have HW : Hid (W2 = (w.alloc (Obj.cells #[.string ⟨#[43]⟩, .string ⟨#[45]⟩, .string ⟨#[42]⟩, .string ⟨#[47]⟩, .string ⟨#[37]⟩, .string ⟨#[60]⟩, .string ⟨#[61, 61]⟩] 9)).alloc (Obj.cells #[.int .i64 2, .int .i64 2, .int .i64 3, .int .i64 3, .int .i64 3, .int .i64 1, .int .i64 1] 3)) := Lib.hid (by rw [hW2, hW1])
  have HL1 := Lib.hid l1; have HL2 := Lib.hid l2; have HS1 := Lib.hid s1; have HS2 := Lib.hid s2
  clear s1 s2 hi hk hG hT k1 k2 b1 b2 z1 hW1 hW2
  have hoi := opW_len i; have hok := opW_len k
  rw [ea', eb'] at hc hlt
  rw [ea'] at hone
  have hl1 : 1 ≤ lvl i ∧ lvl i ≤ 3 := lvl_in _
  have hl2 : 1 ≤ lvl k ∧ lvl k ≤ 3 := lvl_in _
  have lp := (digF_len 4 x).2; have lq := (digF_len 4 y).2; have lr := (digF_len 4 z).2
  obtain ⟨P, hP⟩ : ∃ S, S = st (digF 4 x) := ⟨_, rfl⟩
  obtain ⟨Q, hQ⟩ : ∃ S, S = st (digF 4 y) := ⟨_, rfl⟩
  obtain ⟨R, hR⟩ : ∃ S, S = st (digF 4 z) := ⟨_, rfl⟩
  obtain ⟨O1, hO1⟩ : ∃ S, S = st (opW i) := ⟨_, rfl⟩
  obtain ⟨O2, hO2⟩ : ∃ S, S = st (opW k) := ⟨_, rfl⟩
  have DX := Lib.hid (Digits_x 4 x (by omega) (by omega)); have DY := Lib.hid (Digits_x 4 y (by omega) (by omega)); have DZ := Lib.hid (Digits_x 4 z (by omega) (by omega))
  rw [← hP] at DX
  rw [← hQ] at DY
  rw [← hR] at DZ
  obtain ⟨A1, hA1⟩ : ∃ S, S = st ((digF 4 x) ++ [32]) := ⟨_, rfl⟩
  have fA1 : ∀ w, (Op.stringOp .add P ⟨#[32]⟩).run Tryz.prog w = .ok (.string A1) w := fun w => by
    rw [hA1, hP]
    exact add_st6 (a := (digF 4 x)) (b := [32]) (by
      try simp only [preD, List.length_append, List.length_cons, List.length_nil]
      omega) w
  obtain ⟨A2, hA2⟩ : ∃ S, S = st (((digF 4 x) ++ [32]) ++ (opW i)) := ⟨_, rfl⟩
  have fA2 : ∀ w, (Op.stringOp .add A1 O1).run Tryz.prog w = .ok (.string A2) w := fun w => by
    rw [hA2, hA1, hO1]
    exact add_st6 (a := ((digF 4 x) ++ [32])) (b := (opW i)) (by
      try simp only [preD, List.length_append, List.length_cons, List.length_nil]
      omega) w
  obtain ⟨A3, hA3⟩ : ∃ S, S = st ((((digF 4 x) ++ [32]) ++ (opW i)) ++ [32]) := ⟨_, rfl⟩
  have fA3 : ∀ w, (Op.stringOp .add A2 ⟨#[32]⟩).run Tryz.prog w = .ok (.string A3) w := fun w => by
    rw [hA3, hA2]
    exact add_st6 (a := (((digF 4 x) ++ [32]) ++ (opW i))) (b := [32]) (by
      try simp only [preD, List.length_append, List.length_cons, List.length_nil]
      omega) w
  obtain ⟨A4, hA4⟩ : ∃ S, S = st (((((digF 4 x) ++ [32]) ++ (opW i)) ++ [32]) ++ (digF 4 y)) := ⟨_, rfl⟩
  have fA4 : ∀ w, (Op.stringOp .add A3 Q).run Tryz.prog w = .ok (.string A4) w := fun w => by
    rw [hA4, hA3, hQ]
    exact add_st6 (a := ((((digF 4 x) ++ [32]) ++ (opW i)) ++ [32])) (b := (digF 4 y)) (by
      try simp only [preD, List.length_append, List.length_cons, List.length_nil]
      omega) w
  obtain ⟨A5, hA5⟩ : ∃ S, S = st ((((((digF 4 x) ++ [32]) ++ (opW i)) ++ [32]) ++ (digF 4 y)) ++ [32]) := ⟨_, rfl⟩
  have fA5 : ∀ w, (Op.stringOp .add A4 ⟨#[32]⟩).run Tryz.prog w = .ok (.string A5) w := fun w => by
    rw [hA5, hA4]
    exact add_st6 (a := (((((digF 4 x) ++ [32]) ++ (opW i)) ++ [32]) ++ (digF 4 y))) (b := [32]) (by
      try simp only [preD, List.length_append, List.length_cons, List.length_nil]
      omega) w
  obtain ⟨A6, hA6⟩ : ∃ S, S = st (((((((digF 4 x) ++ [32]) ++ (opW i)) ++ [32]) ++ (digF 4 y)) ++ [32]) ++ (opW k)) := ⟨_, rfl⟩
  have fA6 : ∀ w, (Op.stringOp .add A5 O2).run Tryz.prog w = .ok (.string A6) w := fun w => by
    rw [hA6, hA5, hO2]
    exact add_st6 (a := ((((((digF 4 x) ++ [32]) ++ (opW i)) ++ [32]) ++ (digF 4 y)) ++ [32])) (b := (opW k)) (by
      try simp only [preD, List.length_append, List.length_cons, List.length_nil]
      omega) w
  obtain ⟨A7, hA7⟩ : ∃ S, S = st ((((((((digF 4 x) ++ [32]) ++ (opW i)) ++ [32]) ++ (digF 4 y)) ++ [32]) ++ (opW k)) ++ [32]) := ⟨_, rfl⟩
  have fA7 : ∀ w, (Op.stringOp .add A6 ⟨#[32]⟩).run Tryz.prog w = .ok (.string A7) w := fun w => by
    rw [hA7, hA6]
    exact add_st6 (a := (((((((digF 4 x) ++ [32]) ++ (opW i)) ++ [32]) ++ (digF 4 y)) ++ [32]) ++ (opW k))) (b := [32]) (by
      try simp only [preD, List.length_append, List.length_cons, List.length_nil]
      omega) w
  obtain ⟨A8, hA8⟩ : ∃ S, S = st (((((((((digF 4 x) ++ [32]) ++ (opW i)) ++ [32]) ++ (digF 4 y)) ++ [32]) ++ (opW k)) ++ [32]) ++ (digF 4 z)) := ⟨_, rfl⟩
  have fA8 : ∀ w, (Op.stringOp .add A7 R).run Tryz.prog w = .ok (.string A8) w := fun w => by
    rw [hA8, hA7, hR]
    exact add_st6 (a := ((((((((digF 4 x) ++ [32]) ++ (opW i)) ++ [32]) ++ (digF 4 y)) ++ [32]) ++ (opW k)) ++ [32])) (b := (digF 4 z)) (by
      try simp only [preD, List.length_append, List.length_cons, List.length_nil]
      omega) w
  obtain ⟨B1, hB1⟩ : ∃ S, S = st ([40] ++ (digF 4 x)) := ⟨_, rfl⟩
  have fB1 : ∀ w, (Op.stringOp .add ⟨#[40]⟩ P).run Tryz.prog w = .ok (.string B1) w := fun w => by
    rw [hB1, hP]
    exact add_st6 (a := [40]) (b := (digF 4 x)) (by
      try simp only [preD, List.length_append, List.length_cons, List.length_nil]
      omega) w
  obtain ⟨B2, hB2⟩ : ∃ S, S = st (([40] ++ (digF 4 x)) ++ (opW i)) := ⟨_, rfl⟩
  have fB2 : ∀ w, (Op.stringOp .add B1 O1).run Tryz.prog w = .ok (.string B2) w := fun w => by
    rw [hB2, hB1, hO1]
    exact add_st6 (a := ([40] ++ (digF 4 x))) (b := (opW i)) (by
      try simp only [preD, List.length_append, List.length_cons, List.length_nil]
      omega) w
  obtain ⟨B3, hB3⟩ : ∃ S, S = st ((([40] ++ (digF 4 x)) ++ (opW i)) ++ (digF 4 y)) := ⟨_, rfl⟩
  have fB3 : ∀ w, (Op.stringOp .add B2 Q).run Tryz.prog w = .ok (.string B3) w := fun w => by
    rw [hB3, hB2, hQ]
    exact add_st6 (a := (([40] ++ (digF 4 x)) ++ (opW i))) (b := (digF 4 y)) (by
      try simp only [preD, List.length_append, List.length_cons, List.length_nil]
      omega) w
  obtain ⟨B4, hB4⟩ : ∃ S, S = st (((([40] ++ (digF 4 x)) ++ (opW i)) ++ (digF 4 y)) ++ [41]) := ⟨_, rfl⟩
  have fB4 : ∀ w, (Op.stringOp .add B3 ⟨#[41]⟩).run Tryz.prog w = .ok (.string B4) w := fun w => by
    rw [hB4, hB3]
    exact add_st6 (a := ((([40] ++ (digF 4 x)) ++ (opW i)) ++ (digF 4 y))) (b := [41]) (by
      try simp only [preD, List.length_append, List.length_cons, List.length_nil]
      omega) w
  obtain ⟨B5, hB5⟩ : ∃ S, S = st ((((([40] ++ (digF 4 x)) ++ (opW i)) ++ (digF 4 y)) ++ [41]) ++ (opW k)) := ⟨_, rfl⟩
  have fB5 : ∀ w, (Op.stringOp .add B4 O2).run Tryz.prog w = .ok (.string B5) w := fun w => by
    rw [hB5, hB4, hO2]
    exact add_st6 (a := (((([40] ++ (digF 4 x)) ++ (opW i)) ++ (digF 4 y)) ++ [41])) (b := (opW k)) (by
      try simp only [preD, List.length_append, List.length_cons, List.length_nil]
      omega) w
  obtain ⟨B6, hB6⟩ : ∃ S, S = st (((((([40] ++ (digF 4 x)) ++ (opW i)) ++ (digF 4 y)) ++ [41]) ++ (opW k)) ++ (digF 4 z)) := ⟨_, rfl⟩
  have fB6 : ∀ w, (Op.stringOp .add B5 R).run Tryz.prog w = .ok (.string B6) w := fun w => by
    rw [hB6, hB5, hR]
    exact add_st6 (a := ((((([40] ++ (digF 4 x)) ++ (opW i)) ++ (digF 4 y)) ++ [41]) ++ (opW k))) (b := (digF 4 z)) (by
      try simp only [preD, List.length_append, List.length_cons, List.length_nil]
      omega) w
  obtain ⟨D1, hD1⟩ : ∃ S, S = st (preD ++ (((((((((digF 4 x) ++ [32]) ++ (opW i)) ++ [32]) ++ (digF 4 y)) ++ [32]) ++ (opW k)) ++ [32]) ++ (digF 4 z))) := ⟨_, rfl⟩
  have fD1 : ∀ w, (Op.stringOp .add ⟨#[112, 97, 99, 107, 97, 103, 101, 32, 112, 59, 32, 116, 101, 115, 116, 32, 116, 32, 61, 32]⟩ A8).run Tryz.prog w = .ok (.string D1) w := fun w => by
    rw [hD1, hA8]
    exact add_st6 (a := preD) (b := (((((((((digF 4 x) ++ [32]) ++ (opW i)) ++ [32]) ++ (digF 4 y)) ++ [32]) ++ (opW k)) ++ [32]) ++ (digF 4 z))) (by
      try simp only [preD, List.length_append, List.length_cons, List.length_nil]
      omega) w
  obtain ⟨D2, hD2⟩ : ∃ S, S = st ((preD ++ (((((((((digF 4 x) ++ [32]) ++ (opW i)) ++ [32]) ++ (digF 4 y)) ++ [32]) ++ (opW k)) ++ [32]) ++ (digF 4 z))) ++ [59]) := ⟨_, rfl⟩
  have fD2 : ∀ w, (Op.stringOp .add D1 ⟨#[59]⟩).run Tryz.prog w = .ok (.string D2) w := fun w => by
    rw [hD2, hD1]
    exact add_st6 (a := (preD ++ (((((((((digF 4 x) ++ [32]) ++ (opW i)) ++ [32]) ++ (digF 4 y)) ++ [32]) ++ (opW k)) ++ [32]) ++ (digF 4 z)))) (b := [59]) (by
      try simp only [preD, List.length_append, List.length_cons, List.length_nil]
      omega) w
  obtain ⟨E1, hE1⟩ : ∃ S, S = st ((preD ++ [40, 40]) ++ (((((([40] ++ (digF 4 x)) ++ (opW i)) ++ (digF 4 y)) ++ [41]) ++ (opW k)) ++ (digF 4 z))) := ⟨_, rfl⟩
  have fE1 : ∀ w, (Op.stringOp .add ⟨#[112, 97, 99, 107, 97, 103, 101, 32, 112, 59, 32, 116, 101, 115, 116, 32, 116, 32, 61, 32, 40, 40]⟩ B6).run Tryz.prog w = .ok (.string E1) w := fun w => by
    rw [hE1, hB6]
    exact add_st6 (a := (preD ++ [40, 40])) (b := (((((([40] ++ (digF 4 x)) ++ (opW i)) ++ (digF 4 y)) ++ [41]) ++ (opW k)) ++ (digF 4 z))) (by
      try simp only [preD, List.length_append, List.length_cons, List.length_nil]
      omega) w
  obtain ⟨E2, hE2⟩ : ∃ S, S = st (((preD ++ [40, 40]) ++ (((((([40] ++ (digF 4 x)) ++ (opW i)) ++ (digF 4 y)) ++ [41]) ++ (opW k)) ++ (digF 4 z))) ++ [41, 41, 59]) := ⟨_, rfl⟩
  have fE2 : ∀ w, (Op.stringOp .add E1 ⟨#[41, 41, 59]⟩).run Tryz.prog w = .ok (.string E2) w := fun w => by
    rw [hE2, hE1]
    exact add_st6 (a := ((preD ++ [40, 40]) ++ (((((([40] ++ (digF 4 x)) ++ (opW i)) ++ (digF 4 y)) ++ [41]) ++ (opW k)) ++ (digF 4 z)))) (b := [41, 41, 59]) (by
      try simp only [preD, List.length_append, List.length_cons, List.length_nil]
      omega) w
  obtain ⟨G1, hG1⟩ : ∃ S, S = st ([112, 97, 99, 107, 97, 103, 101, 32, 112, 59, 10, 116, 101, 115, 116, 32, 116, 32, 61, 32] ++ (((((((((digF 4 x) ++ [32]) ++ (opW i)) ++ [32]) ++ (digF 4 y)) ++ [32]) ++ (opW k)) ++ [32]) ++ (digF 4 z))) := ⟨_, rfl⟩
  have fG1 : ∀ w, (Op.stringOp .add ⟨#[112, 97, 99, 107, 97, 103, 101, 32, 112, 59, 10, 116, 101, 115, 116, 32, 116, 32, 61, 32]⟩ A8).run Tryz.prog w = .ok (.string G1) w := fun w => by
    rw [hG1, hA8]
    exact add_st6 (a := [112, 97, 99, 107, 97, 103, 101, 32, 112, 59, 10, 116, 101, 115, 116, 32, 116, 32, 61, 32]) (b := (((((((((digF 4 x) ++ [32]) ++ (opW i)) ++ [32]) ++ (digF 4 y)) ++ [32]) ++ (opW k)) ++ [32]) ++ (digF 4 z))) (by
      try simp only [preD, List.length_append, List.length_cons, List.length_nil]
      omega) w
  obtain ⟨G2, hG2⟩ : ∃ S, S = st (([112, 97, 99, 107, 97, 103, 101, 32, 112, 59, 10, 116, 101, 115, 116, 32, 116, 32, 61, 32] ++ (((((((((digF 4 x) ++ [32]) ++ (opW i)) ++ [32]) ++ (digF 4 y)) ++ [32]) ++ (opW k)) ++ [32]) ++ (digF 4 z))) ++ [59, 10]) := ⟨_, rfl⟩
  have fG2 : ∀ w, (Op.stringOp .add G1 ⟨#[59, 10]⟩).run Tryz.prog w = .ok (.string G2) w := fun w => by
    rw [hG2, hG1]
    exact add_st6 (a := ([112, 97, 99, 107, 97, 103, 101, 32, 112, 59, 10, 116, 101, 115, 116, 32, 116, 32, 61, 32] ++ (((((((((digF 4 x) ++ [32]) ++ (opW i)) ++ [32]) ++ (digF 4 y)) ++ [32]) ++ (opW k)) ++ [32]) ++ (digF 4 z)))) (b := [59, 10]) (by
      try simp only [preD, List.length_append, List.length_cons, List.length_nil]
      omega) w
  obtain ⟨SR, hSR⟩ : ∃ S, S = srcP i k x y z := ⟨_, rfl⟩
  obtain ⟨RR, hRR⟩ : ∃ R : SrcN.Src × Nat × Nat, R = (SR, 0, 0) := ⟨_, rfl⟩
  have HSH : Hid (shortS SR = true) := Lib.hid (by rw [hSR]; exact shortP _ _ _ _ _)
  have hd1 := digF_lt hx; have hd2 := digF_lt hy; have hd3 := digF_lt hz
  have hpre : Lt preD := const_lt (by decide)
  have CP1 : Hid (∀ W, Kp w W → Calls Tryz.prog 18 #[.string D2] W (AnsP RR W)) := Lib.hid (fun W hk => by
    rw [hD2, hRR, hSR]
    exact parse_st ((hpre.append ((((((((hd1.append (const_lt (x := [32]) (by decide))).append opW_lt).append (const_lt (x := [32]) (by decide))).append hd2).append (const_lt (x := [32]) (by decide))).append opW_lt).append (const_lt (x := [32]) (by decide))).append hd3)).append (const_lt (x := [59]) (by decide))) (HG.out.kp' hk) (parse1 hi7 hk7 hc (digL hx) (digL hy) (digL hz)))
  have hfull : (((((([40] ++ (digF 4 x)) ++ (opW i)) ++ (digF 4 y)) ++ [41]) ++ (opW k)) ++ (digF 4 z)) = fullT i k (digF 4 x) (digF 4 y) (digF 4 z) := by
    unfold fullT
    rw [if_neg hlt]
  have CP2 : Hid (∀ W, Kp w W → Calls Tryz.prog 18 #[.string E2] W (AnsP RR W)) := Lib.hid (fun W hk => by
    rw [hE2, hRR, hSR, hfull]
    refine parse_st ?_ (HG.out.kp' hk) (parse2 hi7 hk7 hc (digL hx) (digL hy) (digL hz))
    refine ((hpre.append (const_lt (x := [40, 40]) (by decide))).append ?_).append (const_lt (x := [41, 41, 59]) (by decide))
    unfold fullT
    rw [if_neg hlt]
    exact ((((((const_lt (x := [40]) (by decide)).append hd1).append opW_lt).append hd2).append (const_lt (x := [41]) (by decide))).append opW_lt).append hd3)
  have CF : Hid (∀ W iv dv, Kp w W → SrcV W iv dv SR.xs → CapD W dv → Calls Tryz.prog 13 #[.agg #[.string ⟨#[112]⟩, iv, dv]] W fun e w' => e = .returned (.tuple #[.string G2, .int .i64 0]) ∧ Kp W w') := Lib.hid (fun W iv dv hk hv hcap => by
    rw [hSR] at hv
    have := Format_ok (f := (srcP i k x y z).xs) (ds := [treP i k x y z]) (n := 60) (R := (srcP i k x y z, 0, 0)) (HG.out.kp' hk) (tab_keep HT.out hk) hv hcap (by show 0 < 1000000; decide) (chkP hi7 hk7 hx hy hz) (dcP _ _ _ _ _) (fun d hd => by
      obtain rfl : d = treP i k x y z := by simpa using hd
      exact ⟨.inr (.inl rfl), okP hi7 hk7 hx hy hz⟩) (textP hi7 hk7 hc hx hy hz) (by
        rw [text3]
        simp only [List.length_append, List.length_cons, List.length_nil]; omega) (parse3 hi7 hk7 hc (digL hx) (digL hy) (digL hz))
    rw [if_pos rfl, text3, ← hG2] at this
    exact this)
  have ER : Hid (RR.1 = SR) := Lib.hid (by rw [hRR])
  have EP : Hid (st SR.pk = ⟨#[112]⟩) := Lib.hid (by rw [hSR]; rfl)
  have EI : Hid (SR.im.length = 0) := Lib.hid (by rw [hSR]; rfl)
  have ED : Hid (SR.dc.length = 1) := Lib.hid (by rw [hSR]; rfl)
  have EA : Hid (RR.2.1 = 0) := Lib.hid (by rw [hRR])
  have EE : Hid (RR.2.2 = 0) := Lib.hid (by rw [hRR])
  obtain ⟨LI, hLI⟩ : ∃ z, z = lvl i := ⟨_, rfl⟩
  obtain ⟨LK, hLK⟩ : ∃ z, z = lvl k := ⟨_, rfl⟩
  rw [← hLI] at hl1 hlt hone l1 HL1 hc
  rw [← hLK] at hl2 hlt l2 HL2 hc
  have lo1 := hl1.1; have lo2 := hl1.2; have lo3 := hl2.1; have lo4 := hl2.2
  have t1 : ((LI : Int) == 1) = false := by
    have : (LI : Int) ≠ 1 := by omega
    simpa using this
  have t3 : decide (LI < LK) = false := decide_eq_false (by omega)
  have t4 : decide (((LI : Nat) : Int) < (LK : Int)) = false := decide_eq_false (by omega)
  have s1 := HS1.out; have s2 := HS2.out
  rw [← hO1] at s1
  rw [← hO2] at s2
  have X1 := Lib.hid s1; have X2 := Lib.hid s2
  rw [HW.out] at l1 l2
  clear hP hQ hR hO1 hO2 hA1 hA2 hA3 hA4 hA5 hA6 hA7 hA8 hB1 hB2 hB3 hB4 hB5 hB6 hD1 hD2 hE1 hE2 hG1 hG2 hRR hSR hd1 hd2 hd3 hpre hfull hLI hLK hl1 hl2 hlt hone hc hoi hok lp lq lr HS1 HS2
  go_enter Tryz.func6, Tryz.ntmps6
  clear s1 s2
  go_wp2_with fail
  rw [← HW.out]
  clear l1 l2
  refine (DX.out _).mono ?_
  rintro e w' ⟨rfl, rfl⟩
  go_wp2_with fail
  refine (DY.out _).mono ?_
  rintro e w' ⟨rfl, rfl⟩
  go_wp2_with fail
  refine (DZ.out _).mono ?_
  rintro e w' ⟨rfl, rfl⟩
  have s1 := X1.out; have s2 := X2.out
  have l1 := HL1.out; have l2 := HL2.out
  go_wp2_with fail
  have KQ0 : Hid (Kp W2 W2) := Lib.hid (Kp.refl _)
  go_quiet (fail)
  have KQ1 : Hid (Kp W2 (W2.drewN nq)) := Lib.hid (Kp.trans KQ0.out (Kp.drewN _ _))
  generalize W2.drewN nq = Wq1 at KQ1 ⊢
  clear s1 s2 l1 l2
  have s1 := cell_kept X1.out KQ1.out
  have s2 := cell_kept X2.out KQ1.out
  have l1 := cell_kept HL1.out KQ1.out
  have l2 := cell_kept HL2.out KQ1.out
  go_wp2_with fail
  go_quiet (fail)
  have KQ2 : Hid (Kp W2 (Wq1.drewN nq)) := Lib.hid (Kp.trans KQ1.out (Kp.drewN _ _))
  generalize Wq1.drewN nq = Wq2 at KQ2 ⊢
  clear s1 s2 l1 l2
  have s1 := cell_kept X1.out KQ2.out
  have s2 := cell_kept X2.out KQ2.out
  have l1 := cell_kept HL1.out KQ2.out
  have l2 := cell_kept HL2.out KQ2.out
  go_wp2_with fail
  go_quiet (fail)
  have KQ3 : Hid (Kp W2 (Wq2.drewN nq)) := Lib.hid (Kp.trans KQ2.out (Kp.drewN _ _))
  generalize Wq2.drewN nq = Wq3 at KQ3 ⊢
  clear s1 s2 l1 l2
  go_wp2_with fail
  have HK2 := Lib.hid (Kp.trans K2.out KQ3.out)
  refine (CP1.out _ HK2.out).mono ?_
  rintro e W3 ⟨iv, dv, xs, rfl, hsrc, hk3⟩
  have V1 := Lib.hid (hsrc.v (by rw [ER.out]; exact HSH.out))
  obtain ⟨D, hs1, hs2, -, -⟩ := hsrc.ex
  obtain ⟨io, ic', hiv⟩ := row_open hs1.own
  obtain ⟨do', dc', hdv⟩ := row_open hs2.row.own
  have HK3 := Lib.hid (Kp.trans HK2.out hk3)
  rw [ER.out] at hiv hdv V1
  rw [EI.out] at hiv
  rw [ED.out] at hdv
  rw [ER.out, EP.out, EA.out, EE.out]
  subst hiv hdv
  obtain ⟨W4, hW4⟩ : ∃ W, W = W3.alloc (Obj.cells #[.string ⟨#[112]⟩, .slice io (0 : Nat) ic', .slice do' (1 : Nat) dc'] 29) := ⟨_, rfl⟩
  have HW4 := Lib.hid hW4
  have K34 : Hid (Kp W3 W4) := Lib.hid (by rw [hW4]; exact kp_alloc _ _)
  have HK4 := Lib.hid (Kp.trans HK3.out K34.out)
  have B1 : Hid (Blk W4 W3.heap.size 29 #[.string ⟨#[112]⟩, .slice io (0 : Nat) ic', .slice do' (1 : Nat) dc']) := Lib.hid (by rw [hW4]; exact Blk.new _ _ _)
  clear hsrc hk3 hs1 hs2 hW4
  go_wp2_with fail
  rw [← HW4.out]
  refine (CP2.out _ HK4.out).mono ?_
  rintro e W5 ⟨iv2, dv2, xs2, rfl, hsrc, hk5⟩
  have hsrc0 := hsrc
  obtain ⟨D, hs1, hs2, -, -⟩ := hsrc.ex
  obtain ⟨io2, ic2, hiv⟩ := row_open hs1.own
  obtain ⟨do2, dc2, hdv⟩ := row_open hs2.row.own
  have K35 := Lib.hid (Kp.trans K34.out hk5)
  have HK5 := Lib.hid (Kp.trans HK4.out hk5)
  rw [ER.out] at hiv hdv
  rw [EI.out] at hiv
  rw [ED.out] at hdv
  rw [ER.out, EP.out, EA.out, EE.out]
  subst hiv hdv
  obtain ⟨W6, hW6⟩ : ∃ W, W = W5.alloc (Obj.cells #[.string ⟨#[112]⟩, .slice io2 (0 : Nat) ic2, .slice do2 (1 : Nat) dc2] 29) := ⟨_, rfl⟩
  have HW6 := Lib.hid hW6
  have k56 : Kp W5 W6 := by rw [hW6]; exact kp_alloc _ _
  have K46 := Lib.hid (Kp.trans hk5 k56)
  have K36 := Lib.hid (Kp.trans K35.out k56)
  have HK6 := Lib.hid (Kp.trans HK5.out k56)
  have b2 : Blk W6 W5.heap.size 29 #[.string ⟨#[112]⟩, .slice io2 (0 : Nat) ic2, .slice do2 (1 : Nat) dc2] := by rw [hW6]; exact Blk.new _ _ _
  have B2 := Lib.hid b2
  have hsrc6 := hsrc0.turn (F2 := fun b => b < W4.heap.size) (k56.keep (fun b hb => hb.2)) (fun b hb => hb)
  have V2 := Lib.hid (hsrc6.v (by rw [ER.out]; exact HSH.out))
  have C2 := Lib.hid hsrc6.cap
  rw [ER.out] at V2
  have CF1 := Lib.hid (CF.out _ _ _ HK6.out V2.out C2.out)
  have y0 := b2.cell 0 rfl; have y1 := b2.cell 1 rfl; have y2 := b2.cell 2 rfl
  rw [hW6] at y0 y1 y2
  clear hsrc hsrc0 hsrc6 hk5 hs1 hs2 hW6 b2 k56
  go_wp2_with fail
  rw [← HW6.out]
  refine CF1.out.mono ?_
  rintro e W7 ⟨rfl, hk7⟩
  have K67 := Lib.hid hk7
  have HK7 := Lib.hid (Kp.trans HK6.out hk7)
  have v1 := V1.out.kp (Kp.trans K36.out hk7)
  have v2 := V2.out.kp hk7
  have CS : Hid (Calls Tryz.prog 12 #[.agg #[.string ⟨#[112]⟩, .slice io (0 : Nat) ic', .slice do' (1 : Nat) dc'], .agg #[.string ⟨#[112]⟩, .slice io2 (0 : Nat) ic2, .slice do2 (1 : Nat) dc2]] W7 fun e W' => e = .returned (.bool true) ∧ Kp W7 W') := Lib.hid (by
    have := Same_eq v1 v2
    have hp : st SR.xs.pk = ⟨#[112]⟩ := EP.out
    rw [hp] at this
    exact this)
  have g1 := (B1.out.keep K46.out).keep hk7
  have g2 := B2.out.keep hk7
  have p0 := g1.cell 0 rfl; have p1 := g1.cell 1 rfl; have p2 := g1.cell 2 rfl
  have q0 := g2.cell 0 rfl; have q1 := g2.cell 1 rfl; have q2 := g2.cell 2 rfl
  clear y0 y1 y2 hk7 v1 v2 g1 g2
  go_wp2_with fail
  refine CS.out.mono ?_
  rintro e W8 ⟨rfl, hk8⟩
  have HK8 := Lib.hid (Kp.trans HK7.out hk8)
  have AW := Lib.hid (awake5_any (HG.out.kp' HK8.out) (tab_keep HT.out HK8.out))
  clear p0 p1 p2 q0 q1 q2 hk8
  go_wp2_with fail
  refine AW.out.mono ?_
  rintro e W9 ⟨rfl, hk9⟩
  have HK9 := Lib.hid (Kp.trans HK8.out hk9)
  clear hk9
  go_wp2_with fail
  go_ret
  exact ⟨rfl, HK9.out⟩
theorem parens_any {w : World} (hG : Glob w) (hT : Tab10 w) (a : Nat) (ha : a < 256) (b : Nat) (hb : b < 256) (x : Nat) (hx : x < 65536) (y : Nat) (hy : y < 65536) (z : Nat) (hz : z < 65536) : Calls Tryz.prog 6 #[.int .u8 (a : Nat), .int .u8 (b : Nat), .int .u16 (x : Nat), .int .u16 (y : Nat), .int .u16 (z : Nat)] w fun e w' => e = .returned (.bool true) ∧ Kp w w' := by
  by_cases hc : lvl (a % 7) = 1 ∧ lvl (b % 7) = 1
  · exact parens_chain hG hT a ha b hb hc _ _ _
  by_cases hlt : lvl (a % 7) < lvl (b % 7)
  · by_cases hone : lvl (a % 7) = 1
    · exact parens_lt1 hG hT a ha b hb hc hlt hone x hx y hy z hz
    · exact parens_lt hG hT a ha b hb hc hlt hone x hx y hy z hz
  · have hone : lvl (a % 7) ≠ 1 := fun h => hc ⟨h, by have := (lvl_in (b % 7)).1; omega⟩
    exact parens_ge hG hT a ha b hb hc hlt hone x hx y hy z hz
end By
end Go.Proofs.YtmflgfojicaecaaGreatDoor
