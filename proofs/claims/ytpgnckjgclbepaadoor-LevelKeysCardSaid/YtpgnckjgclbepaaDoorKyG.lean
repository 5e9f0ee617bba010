/- Which keys are well-formed: the program's Check and the reference's, for strings of any length. Condition: a package variable of the library holds some integer. -/
import Derived.Test.YtpgnckjgclbepaaDoorKyF
import Derived.Test.YtpgnckjgclbepaaDoorLMx
namespace Go.Proofs.YtpgnckjgclbepaaDoor
namespace By
open Go.RowKit WireN LexN RevN KeyN
set_option linter.unusedVariables false
set_option linter.unusedSimpArgs false

theorem cons_long {p : Nat → Bool} {l : List Nat} (h : 24 < l.length) : LexN.cons p l = false := by
  unfold LexN.cons
  rw [decide_eq_false (by omega : ¬ l.length ≤ 24)]
  simp
theorem name_long {l : List Nat} (h : 24 < l.length) : nameB l = false := by
  unfold nameB
  rw [cons_long h]
  simp
theorem path_longk {l : List Nat} (h : 80 < l.length) : pathB l = false := by
  unfold pathB
  rw [decide_eq_false (by omega)]
  rfl
set_option maxRecDepth 100000 in
set_option maxHeartbeats 1000000 in
theorem consL {l : List Nat} (h : 24 < l.length) (v : Value) (w : World) : Calls Tryd.prog 41 #[.string (st l), v] w fun e w' => e = .returned (.bool false) ∧ w = w' := by
  obtain ⟨n, hn⟩ : ∃ n, n = l.length := ⟨_, rfl⟩
  have qs : ∀ w, (Builtin.len_ #[9] 3 #[.string (st l)]).run Tryd.prog w = .ok (goInt n) w := fun w => by rw [hn]; exact len w
  have i2 : (1 : Int) ≤ (n : Int) := by omega
  have i3 : (24 : Int) < (n : Int) := by omega
  obtain ⟨S, hS⟩ : ∃ S, S = st l := ⟨_, rfl⟩
  rw [← hS] at qs ⊢
  clear hn hS h
  go_enter Tryd.func41, Tryd.ntmps41
  go_wp2_with fail
  go_ret
  exact ⟨rfl, rfl⟩
set_option maxRecDepth 100000 in
set_option maxHeartbeats 1000000 in
theorem NameK {l : List Nat} (hl : Lt l) (w : World) : Calls Tryd.prog 30 #[.string (st l)] w fun e w' => e = .returned (.bool (nameB l)) ∧ Kp w w' := by
  by_cases h : l.length ≤ 24
  · exact (Name_any hl (by omega) w).mono fun e w' ⟨h1, h2⟩ => ⟨h1, h2 ▸ Kp.refl _⟩
  · rw [name_long (by omega)]
    have HC := Lib.hid (fun (v : Value) (w : World) => consL (l := l) (by omega) v w)
    obtain ⟨S, hS⟩ : ∃ S, S = st l := ⟨_, rfl⟩
    rw [← hS] at HC ⊢
    clear hS hl h
    go_enter Tryd.func30, Tryd.ntmps30
    go_wp2_with fail
    refine (HC.out _ _).mono ?_
    rintro e w' ⟨rfl, rfl⟩
    go_wp2_with fail
    go_ret
    exact ⟨rfl, Kp.refl _⟩
set_option maxRecDepth 100000 in
set_option maxHeartbeats 1000000 in
theorem rNameK {l : List Nat} (hl : Lt l) (w : World) : Calls Tryd.prog 39 #[.string (st l)] w fun e w' => e = .returned (.bool (nameB l)) ∧ Kp w w' := by
  by_cases h : l.length ≤ 24
  · exact (rName_any hl (by omega) w).mono fun e w' ⟨h1, h2⟩ => ⟨h1, h2 ▸ Kp.refl _⟩
  · rw [name_long (by omega)]
    obtain ⟨n, hn⟩ : ∃ n, n = l.length := ⟨_, rfl⟩
    have qs : ∀ w, (Builtin.len_ #[9] 3 #[.string (st l)]).run Tryd.prog w = .ok (goInt n) w := fun w => by rw [hn]; exact len w
    have i2 : (1 : Int) ≤ (n : Int) := by omega
    have i3 : (24 : Int) < (n : Int) := by omega
    obtain ⟨S, hS⟩ : ∃ S, S = st l := ⟨_, rfl⟩
    rw [← hS] at qs ⊢
    clear hn hS hl h
    go_enter Tryd.func39, Tryd.ntmps39
    go_wp2_with fail
    go_ret
    exact ⟨rfl, Kp.refl _⟩
set_option maxRecDepth 100000 in
set_option maxHeartbeats 1000000 in
theorem PathK {l : List Nat} (hl : Lt l) {w : World} (hm : MX w) : Calls Tryd.prog 31 #[.string (st l)] w fun e w' => e = .returned (.bool (pathB l)) ∧ Kp w w' := by
  by_cases h : l.length ≤ 80
  · exact Path_mx hl (by omega) hm
  · rw [path_longk (by omega)]
    obtain ⟨n, hn⟩ : ∃ n, n = l.length := ⟨_, rfl⟩
    have qs : ∀ w, (Builtin.len_ #[9] 3 #[.string (st l)]).run Tryd.prog w = .ok (goInt n) w := fun w => by rw [hn]; exact len w
    have i1 : (80 : Int) < (n : Int) := by omega
    obtain ⟨S, hS⟩ : ∃ S, S = st l := ⟨_, rfl⟩
    rw [← hS] at qs ⊢
    clear hn hS hl h hm
    go_enter Tryd.func31, Tryd.ntmps31
    go_wp2_with fail
    go_ret
    exact ⟨rfl, Kp.refl _⟩
set_option maxRecDepth 100000 in
set_option maxHeartbeats 1000000 in
theorem rPathK {l : List Nat} (hl : Lt l) (w : World) : Calls Tryd.prog 40 #[.string (st l)] w fun e w' => e = .returned (.bool (pathB l)) ∧ Kp w w' := by
  by_cases h : l.length ≤ 80
  · exact (rPath_any hl (by omega) w).mono fun e w' ⟨h1, h2⟩ => ⟨h1, h2 ▸ Kp.refl _⟩
  · rw [path_longk (by omega)]
    obtain ⟨n, hn⟩ : ∃ n, n = l.length := ⟨_, rfl⟩
    have qs : ∀ w, (Builtin.len_ #[9] 3 #[.string (st l)]).run Tryd.prog w = .ok (goInt n) w := fun w => by rw [hn]; exact len w
    have i1 : (80 : Int) < (n : Int) := by omega
    obtain ⟨S, hS⟩ : ∃ S, S = st l := ⟨_, rfl⟩
    rw [← hS] at qs ⊢
    clear hn hS hl h
    go_enter Tryd.func40, Tryd.ntmps40
    go_wp2_with fail
    go_ret
    exact ⟨rfl, Kp.refl _⟩
theorem st_isnil {b : List Nat} (h : b ≠ []) : ((st b).toList == []) = false := by
  refine beq_eq_false_iff_ne.2 fun e => h ?_
  rw [toList_stk] at e
  exact List.map_eq_nil_iff.1 e
/-- The kinds. -/
theorem kind_cases (k : Int) : (k = 1 ∨ k = 2) ∨ (k = 3 ∨ k = 4) ∨ (k = 5 ∨ k = 6 ∨ k = 7) ∨ ((k == 1) = false ∧ (k == 2) = false ∧ (k == 3) = false ∧ (k == 4) = false ∧ (k == 5) = false ∧ (k == 6) = false ∧ (k == 7) = false) := by
  simp only [beq_eq_false_iff_ne]
  omega
set_option maxRecDepth 100000 in
set_option maxHeartbeats 4000000 in
theorem Check_any {x : Ky} (hx : KyOk x) {w : World} (hm : MX w) : Calls Tryd.prog 24 #[.agg #[.int .i64 x.1, .string (st x.2.1), .string (st x.2.2)]] w fun e w' => e = .returned (.bool (chkK x)) ∧ Kp w w' := by
  obtain ⟨k, a, b⟩ := x
  simp only
  have HK0 := Lib.hid (kp_alloc w (.cells #[.int .i64 k, .string (st a), .string (st b)] 29))
  have HMX := Lib.hid hm
  have HN := Lib.hid (fun W => @NameK a hx.1.1 W)
  have HB := Lib.hid (fun W => @NameK b hx.1.2 W)
  have HP := Lib.hid (fun W (h : MX W) => @PathK a hx.1.1 W h)
  clear hm
  obtain ⟨p, hp⟩ : ∃ p, p = nameB a := ⟨_, rfl⟩
  obtain ⟨q, hq⟩ : ∃ q, q = nameB b := ⟨_, rfl⟩
  obtain ⟨r, hr⟩ : ∃ r, r = pathB a := ⟨_, rfl⟩
  have HV : Hid (chkK (k, a, b) = if k = 1 ∨ k = 2 then p && q else if k = 3 ∨ k = 4 then r && decide (b = []) else if k = 5 ∨ k = 6 ∨ k = 7 then p && decide (b = []) else false) := Lib.hid (by rw [hp, hq, hr]; rfl)
  rw [← hp] at HN
  rw [← hq] at HB
  rw [← hr] at HP
  obtain ⟨V, hV⟩ : ∃ V, V = chkK (k, a, b) := ⟨_, rfl⟩
  rw [← hV] at HV ⊢
  obtain ⟨S1, hS1⟩ : ∃ S, S = st a := ⟨_, rfl⟩
  rw [← hS1] at HN HP HK0 ⊢
  clear hp hq hr hV hS1 hx
  rcases kind_cases k with h | h | h | h
  · have HV2 : Hid (V = (p && q)) := Lib.hid (by rw [HV.out, if_pos h])
    obtain ⟨S2, hS2⟩ : ∃ S, S = st b := ⟨_, rfl⟩
    rw [← hS2] at HB HK0 ⊢
    have HBX := Lib.hid (Blk.new w 29 #[.int .i64 k, .string S1, .string S2])
    clear HV hS2 HP
    rcases h with rfl | rfl
    all_goals
      go_enter Tryd.func24, Tryd.ntmps24
      go_wp2_with fail
      refine (HN.out _).mono ?_
      rintro e w1 ⟨rfl, hk1⟩
      have HK1 := Lib.hid (Kp.trans HK0.out hk1)
      have c2 := (HBX.out.keep hk1).cell 2 rfl
      clear hk1
      cases p with
      | true =>
        go_wp2_with fail
        refine (HB.out _).mono ?_
        rintro e w2 ⟨rfl, hk2⟩
        have HK2 := Lib.hid (Kp.trans HK1.out hk2)
        clear hk2
        go_wp2_with fail
        go_ret
        exact ⟨ret_bool (by rw [HV2.out]; rfl), HK2.out⟩
      | false =>
        go_wp2_with fail
        go_ret
        exact ⟨ret_bool (by rw [HV2.out]; rfl), HK1.out⟩
  · have HV2 : Hid (V = (r && decide (b = []))) := Lib.hid (by rw [HV.out, if_neg (by omega), if_pos h])
    clear HV HB
    by_cases hb : b = []
    · have HV3 : Hid (V = r) := Lib.hid (by rw [HV2.out, decide_eq_true hb, Bool.and_true])
      subst hb
      change Calls Tryd.prog 24 #[.agg #[.int .i64 k, .string S1, .string ⟨#[]⟩]] w _
      replace HK0 : Hid (Kp w (w.alloc (.cells #[.int .i64 k, .string S1, .string ⟨#[]⟩] 29))) := HK0
      have HBX := Lib.hid (Blk.new w 29 #[.int .i64 k, .string S1, .string ⟨#[]⟩])
      rcases h with rfl | rfl
      all_goals
        go_enter Tryd.func24, Tryd.ntmps24
        go_wp2_with fail
        refine (HP.out _ (HMX.out.keep HK0.out)).mono ?_
        rintro e w1 ⟨rfl, hk1⟩
        have HK1 := Lib.hid (Kp.trans HK0.out hk1)
        have c2 := (HBX.out.keep hk1).cell 2 rfl
        clear hk1
        cases r with
        | true =>
          go_wp2_with fail
          go_ret
          exact ⟨ret_bool (by rw [HV3.out]), HK1.out⟩
        | false =>
          go_wp2_with fail
          go_ret
          exact ⟨ret_bool (by rw [HV3.out]), HK1.out⟩
    · have HV3 : Hid (V = false) := Lib.hid (by rw [HV2.out, decide_eq_false hb, Bool.and_false])
      have he2 := st_isnil hb
      obtain ⟨S2, hS2⟩ : ∃ S, S = st b := ⟨_, rfl⟩
      rw [← hS2] at he2 HK0 ⊢
      have HBX := Lib.hid (Blk.new w 29 #[.int .i64 k, .string S1, .string S2])
      clear hS2 hb
      rcases h with rfl | rfl
      all_goals
        go_enter Tryd.func24, Tryd.ntmps24
        go_wp2_with fail
        refine (HP.out _ (HMX.out.keep HK0.out)).mono ?_
        rintro e w1 ⟨rfl, hk1⟩
        have HK1 := Lib.hid (Kp.trans HK0.out hk1)
        have c2 := (HBX.out.keep hk1).cell 2 rfl
        clear hk1
        cases r with
        | true =>
          go_wp2_with fail
          go_ret
          exact ⟨ret_bool (by rw [HV3.out]), HK1.out⟩
        | false =>
          go_wp2_with fail
          go_ret
          exact ⟨ret_bool (by rw [HV3.out]), HK1.out⟩
  · have HV2 : Hid (V = (p && decide (b = []))) := Lib.hid (by rw [HV.out, if_neg (by omega), if_neg (by omega), if_pos h])
    clear HV HB
    by_cases hb : b = []
    · have HV3 : Hid (V = p) := Lib.hid (by rw [HV2.out, decide_eq_true hb, Bool.and_true])
      subst hb
      change Calls Tryd.prog 24 #[.agg #[.int .i64 k, .string S1, .string ⟨#[]⟩]] w _
      replace HK0 : Hid (Kp w (w.alloc (.cells #[.int .i64 k, .string S1, .string ⟨#[]⟩] 29))) := HK0
      have HBX := Lib.hid (Blk.new w 29 #[.int .i64 k, .string S1, .string ⟨#[]⟩])
      rcases h with rfl | rfl | rfl
      all_goals
        go_enter Tryd.func24, Tryd.ntmps24
        go_wp2_with fail
        refine (HN.out _).mono ?_
        rintro e w1 ⟨rfl, hk1⟩
        have HK1 := Lib.hid (Kp.trans HK0.out hk1)
        have c2 := (HBX.out.keep hk1).cell 2 rfl
        clear hk1
        cases p with
        | true =>
          go_wp2_with fail
          go_ret
          exact ⟨ret_bool (by rw [HV3.out]), HK1.out⟩
        | false =>
          go_wp2_with fail
          go_ret
          exact ⟨ret_bool (by rw [HV3.out]), HK1.out⟩
    · have HV3 : Hid (V = false) := Lib.hid (by rw [HV2.out, decide_eq_false hb, Bool.and_false])
      have he2 := st_isnil hb
      obtain ⟨S2, hS2⟩ : ∃ S, S = st b := ⟨_, rfl⟩
      rw [← hS2] at he2 HK0 ⊢
      have HBX := Lib.hid (Blk.new w 29 #[.int .i64 k, .string S1, .string S2])
      clear hS2 hb
      rcases h with rfl | rfl | rfl
      all_goals
        go_enter Tryd.func24, Tryd.ntmps24
        go_wp2_with fail
        refine (HN.out _).mono ?_
        rintro e w1 ⟨rfl, hk1⟩
        have HK1 := Lib.hid (Kp.trans HK0.out hk1)
        have c2 := (HBX.out.keep hk1).cell 2 rfl
        clear hk1
        cases p with
        | true =>
          go_wp2_with fail
          go_ret
          exact ⟨ret_bool (by rw [HV3.out]), HK1.out⟩
        | false =>
          go_wp2_with fail
          go_ret
          exact ⟨ret_bool (by rw [HV3.out]), HK1.out⟩
  · obtain ⟨h1, h2, h3, h4, h5, h6, h7⟩ := h
    have HV2 : Hid (V = false) := Lib.hid (by
      have a1 := beq_eq_false_iff_ne.1 h1; have a2 := beq_eq_false_iff_ne.1 h2; have a3 := beq_eq_false_iff_ne.1 h3; have a4 := beq_eq_false_iff_ne.1 h4
      have a5 := beq_eq_false_iff_ne.1 h5; have a6 := beq_eq_false_iff_ne.1 h6; have a7 := beq_eq_false_iff_ne.1 h7
      rw [HV.out, if_neg (by omega), if_neg (by omega), if_neg (by omega)])
    obtain ⟨S2, hS2⟩ : ∃ S, S = st b := ⟨_, rfl⟩
    rw [← hS2] at HK0 ⊢
    clear HV HN HB HP hS2
    go_enter Tryd.func24, Tryd.ntmps24
    go_wp2_with fail
    go_ret
    exact ⟨ret_bool HV2.out.symm, HK0.out⟩
set_option maxRecDepth 100000 in
set_option maxHeartbeats 4000000 in
theorem rCheck_any {x : Ky} (hx : KyOk x) {w : World} : Calls Tryd.prog 29 #[.agg #[.int .i64 x.1, .string (st x.2.1), .string (st x.2.2)]] w fun e w' => e = .returned (.bool (chkK x)) ∧ Kp w w' := by
  obtain ⟨k, a, b⟩ := x
  simp only
  have HK0 := Lib.hid (kp_alloc w (.cells #[.int .i64 k, .string (st a), .string (st b)] 29))
  have HN := Lib.hid (fun W => @rNameK a hx.1.1 W)
  have HB := Lib.hid (fun W => @rNameK b hx.1.2 W)
  have HP := Lib.hid (fun W => @rPathK a hx.1.1 W)
  obtain ⟨p, hp⟩ : ∃ p, p = nameB a := ⟨_, rfl⟩
  obtain ⟨q, hq⟩ : ∃ q, q = nameB b := ⟨_, rfl⟩
  obtain ⟨r, hr⟩ : ∃ r, r = pathB a := ⟨_, rfl⟩
  have HV : Hid (chkK (k, a, b) = if k = 1 ∨ k = 2 then p && q else if k = 3 ∨ k = 4 then r && decide (b = []) else if k = 5 ∨ k = 6 ∨ k = 7 then p && decide (b = []) else false) := Lib.hid (by rw [hp, hq, hr]; rfl)
  rw [← hp] at HN
  rw [← hq] at HB
  rw [← hr] at HP
  obtain ⟨V, hV⟩ : ∃ V, V = chkK (k, a, b) := ⟨_, rfl⟩
  rw [← hV] at HV ⊢
  obtain ⟨S1, hS1⟩ : ∃ S, S = st a := ⟨_, rfl⟩
  rw [← hS1] at HN HP HK0 ⊢
  clear hp hq hr hV hS1 hx
  rcases kind_cases k with h | h | h | h
  · have HV2 : Hid (V = (p && q)) := Lib.hid (by rw [HV.out, if_pos h])
    obtain ⟨S2, hS2⟩ : ∃ S, S = st b := ⟨_, rfl⟩
    rw [← hS2] at HB HK0 ⊢
    have HBX := Lib.hid (Blk.new w 29 #[.int .i64 k, .string S1, .string S2])
    clear HV hS2 HP
    rcases h with rfl | rfl
    all_goals
      go_enter Tryd.func29, Tryd.ntmps29
      go_wp2_with fail
      refine (HN.out _).mono ?_
      rintro e w1 ⟨rfl, hk1⟩
      have HK1 := Lib.hid (Kp.trans HK0.out hk1)
      have c2 := (HBX.out.keep hk1).cell 2 rfl
      clear hk1
      cases p with
      | true =>
        go_wp2_with fail
        refine (HB.out _).mono ?_
        rintro e w2 ⟨rfl, hk2⟩
        have HK2 := Lib.hid (Kp.trans HK1.out hk2)
        clear hk2
        go_wp2_with fail
        go_ret
        exact ⟨ret_bool (by rw [HV2.out]; rfl), HK2.out⟩
      | false =>
        go_wp2_with fail
        go_ret
        exact ⟨ret_bool (by rw [HV2.out]; rfl), HK1.out⟩
  · have HV2 : Hid (V = (r && decide (b = []))) := Lib.hid (by rw [HV.out, if_neg (by omega), if_pos h])
    clear HV HB
    by_cases hb : b = []
    · have HV3 : Hid (V = r) := Lib.hid (by rw [HV2.out, decide_eq_true hb, Bool.and_true])
      subst hb
      change Calls Tryd.prog 29 #[.agg #[.int .i64 k, .string S1, .string ⟨#[]⟩]] w _
      replace HK0 : Hid (Kp w (w.alloc (.cells #[.int .i64 k, .string S1, .string ⟨#[]⟩] 29))) := HK0
      have HBX := Lib.hid (Blk.new w 29 #[.int .i64 k, .string S1, .string ⟨#[]⟩])
      rcases h with rfl | rfl
      all_goals
        go_enter Tryd.func29, Tryd.ntmps29
        go_wp2_with fail
        refine (HP.out _).mono ?_
        rintro e w1 ⟨rfl, hk1⟩
        have HK1 := Lib.hid (Kp.trans HK0.out hk1)
        have c2 := (HBX.out.keep hk1).cell 2 rfl
        clear hk1
        cases r with
        | true =>
          go_wp2_with fail
          go_ret
          exact ⟨ret_bool (by rw [HV3.out]), HK1.out⟩
        | false =>
          go_wp2_with fail
          go_ret
          exact ⟨ret_bool (by rw [HV3.out]), HK1.out⟩
    · have HV3 : Hid (V = false) := Lib.hid (by rw [HV2.out, decide_eq_false hb, Bool.and_false])
      have he2 := st_isnil hb
      obtain ⟨S2, hS2⟩ : ∃ S, S = st b := ⟨_, rfl⟩
      rw [← hS2] at he2 HK0 ⊢
      have HBX := Lib.hid (Blk.new w 29 #[.int .i64 k, .string S1, .string S2])
      clear hS2 hb
      rcases h with rfl | rfl
      all_goals
        go_enter Tryd.func29, Tryd.ntmps29
        go_wp2_with fail
        refine (HP.out _).mono ?_
        rintro e w1 ⟨rfl, hk1⟩
        have HK1 := Lib.hid (Kp.trans HK0.out hk1)
        have c2 := (HBX.out.keep hk1).cell 2 rfl
        clear hk1
        cases r with
        | true =>
          go_wp2_with fail
          go_ret
          exact ⟨ret_bool (by rw [HV3.out]), HK1.out⟩
        | false =>
          go_wp2_with fail
          go_ret
          exact ⟨ret_bool (by rw [HV3.out]), HK1.out⟩
  · have HV2 : Hid (V = (p && decide (b = []))) := Lib.hid (by rw [HV.out, if_neg (by omega), if_neg (by omega), if_pos h])
    clear HV HB
    by_cases hb : b = []
    · have HV3 : Hid (V = p) := Lib.hid (by rw [HV2.out, decide_eq_true hb, Bool.and_true])
      subst hb
      change Calls Tryd.prog 29 #[.agg #[.int .i64 k, .string S1, .string ⟨#[]⟩]] w _
      replace HK0 : Hid (Kp w (w.alloc (.cells #[.int .i64 k, .string S1, .string ⟨#[]⟩] 29))) := HK0
      have HBX := Lib.hid (Blk.new w 29 #[.int .i64 k, .string S1, .string ⟨#[]⟩])
      rcases h with rfl | rfl | rfl
      all_goals
        go_enter Tryd.func29, Tryd.ntmps29
        go_wp2_with fail
        refine (HN.out _).mono ?_
        rintro e w1 ⟨rfl, hk1⟩
        have HK1 := Lib.hid (Kp.trans HK0.out hk1)
        have c2 := (HBX.out.keep hk1).cell 2 rfl
        clear hk1
        cases p with
        | true =>
          go_wp2_with fail
          go_ret
          exact ⟨ret_bool (by rw [HV3.out]), HK1.out⟩
        | false =>
          go_wp2_with fail
          go_ret
          exact ⟨ret_bool (by rw [HV3.out]), HK1.out⟩
    · have HV3 : Hid (V = false) := Lib.hid (by rw [HV2.out, decide_eq_false hb, Bool.and_false])
      have he2 := st_isnil hb
      obtain ⟨S2, hS2⟩ : ∃ S, S = st b := ⟨_, rfl⟩
      rw [← hS2] at he2 HK0 ⊢
      have HBX := Lib.hid (Blk.new w 29 #[.int .i64 k, .string S1, .string S2])
      clear hS2 hb
      rcases h with rfl | rfl | rfl
      all_goals
        go_enter Tryd.func29, Tryd.ntmps29
        go_wp2_with fail
        refine (HN.out _).mono ?_
        rintro e w1 ⟨rfl, hk1⟩
        have HK1 := Lib.hid (Kp.trans HK0.out hk1)
        have c2 := (HBX.out.keep hk1).cell 2 rfl
        clear hk1
        cases p with
        | true =>
          go_wp2_with fail
          go_ret
          exact ⟨ret_bool (by rw [HV3.out]), HK1.out⟩
        | false =>
          go_wp2_with fail
          go_ret
          exact ⟨ret_bool (by rw [HV3.out]), HK1.out⟩
  · obtain ⟨h1, h2, h3, h4, h5, h6, h7⟩ := h
    have HV2 : Hid (V = false) := Lib.hid (by
      have a1 := beq_eq_false_iff_ne.1 h1; have a2 := beq_eq_false_iff_ne.1 h2; have a3 := beq_eq_false_iff_ne.1 h3; have a4 := beq_eq_false_iff_ne.1 h4
      have a5 := beq_eq_false_iff_ne.1 h5; have a6 := beq_eq_false_iff_ne.1 h6; have a7 := beq_eq_false_iff_ne.1 h7
      rw [HV.out, if_neg (by omega), if_neg (by omega), if_neg (by omega)])
    obtain ⟨S2, hS2⟩ : ∃ S, S = st b := ⟨_, rfl⟩
    rw [← hS2] at HK0 ⊢
    clear HV HN HB HP hS2
    go_enter Tryd.func29, Tryd.ntmps29
    go_wp2_with fail
    go_ret
    exact ⟨ret_bool HV2.out.symm, HK0.out⟩
end By
end Go.Proofs.YtpgnckjgclbepaaDoor
