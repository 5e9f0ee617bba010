/- The law of full stores, over what is asked of the program's functions. No condition. -/
import Derived.Test.YtlfoikjbbbhbdaaCtV
import Derived.Test.YtlfoikjbbbhbdaaCtDg
import Derived.Test.YtlfoikjbbbhbdaaCtRg
namespace Go.Proofs.Ytlfoikjbbbhbdaa
namespace By
open Go.RowKit WireN LexN CtN
set_option linter.unusedVariables false
set_option linter.unusedSimpArgs false

def CheckC : Prop := ∀ {w : World} {v : Value} {ts : List Tx}, Tw w v ts → Calls Try.prog 9 #[.agg #[v]] w fun e w' => e = .returned (.int .i64 (err ts : Nat)) ∧ Kp w w'
theorem digC_txok {i : Nat} (h : i ≤ 9999) : TxOk (digC 3 i) := ⟨lt_of_mem fun x hx => by have := digC_all 3 i (by omega) x hx; omega, by have := (digC_len 3 i).2; omega⟩
set_option maxRecDepth 100000 in
set_option maxHeartbeats 8000000 in
theorem ctFull_any (HC : CheckC) (HP : PutC) (HG : GetC) {n : Nat} (hn : n < 256) {w : World} :
    Calls Try.prog 6 #[.int .u8 n] w fun e w' => e = .returned (.bool true) ∧ Kp w w' := by
  obtain ⟨K, hK⟩ : ∃ K : Nat, K = 4094 + n % 4 := ⟨_, rfl⟩
  have eK : (4094 : Int) + (n : Int) % 4 = (K : Int) := by omega
  have hK1 : 4094 ≤ K := by omega
  have hK2 : K ≤ 4097 := by omega
  obtain ⟨w1, hw1⟩ : ∃ W, W = w.alloc (.cells #[.slice none 0 0] 25) := ⟨_, rfl⟩
  have hI0 : MgI w w1 w.heap.size (.slice none 0 0) (.slice none 0 0) [] [] := by
    rw [hw1]
    exact ⟨Blk.new _ _ _, (OwT.start w).keep (kp_alloc _ _), (OwJ.start w).keep (kp_alloc _ _), Nat.le_refl _, fun c hc => by simp [Value.ownBlock] at hc, fun c hc => by simp [Value.ownBlock] at hc, fun c hc e => by simp [Value.ownBlock] at e⟩
  have HI0 := Lib.hid hI0; have HW1 := Lib.hid hw1
  have HK := Lib.hid hK
  clear hI0 hw1 hK
  go_enter Try.func6, Try.ntmps6
  go_wp2_with fail
  rw [← HW1.out]
  clear eK
  go_loopw [5] (fun iv wr => ∃ (i : Nat) (u : Value), iv = .int .i64 (i : Nat) ∧ i ≤ K ∧ MgI w wr w.heap.size u (.slice none 0 0) (nums i) []) (fun iv _ => K - (intOf iv).toNat)
  case atStart => exact ⟨0, _, rfl, Nat.zero_le _, HI0.out⟩
  case round =>
    obtain ⟨i, u, rfl, hi, hI⟩ := hrel
    rename World => wr
    have HI := Lib.hid hI
    obtain ⟨⟨u1, u2, u3, rfl⟩, -⟩ := row_frc hI.ow.owns
    by_cases hlt : i < K
    · have j1 : (i : Int) < (K : Int) := by omega
      have j2 : (i : Int) ≤ 4097 := by omega
      have HDG := Lib.hid (Digits_c 3 i (by omega) (by omega))
      have c0 := hI.blk.cell 0 rfl
      obtain ⟨S, hS⟩ : ∃ S, S = st (digC 3 i) := ⟨_, rfl⟩
      rw [← hS] at HDG
      obtain ⟨W4, hW4⟩ : ∃ W, W = wr.drew := ⟨_, rfl⟩
      have HI4 : Hid (MgI w W4 w.heap.size (.slice u1 u2 u3) (.slice none 0 0) (nums i) []) := Lib.hid (hI.keep (by rw [hW4]; exact kp_drew wr))
      have c4 := HI4.out.blk.cell 0 rfl
      have HLN : Hid ((nums i).length ≤ 1000000) := Lib.hid (by rw [nums_len]; omega)
      have HTO := Lib.hid (digC_txok (i := i) (by omega))
      have HNS : Hid (nums (i + 1) = nums i ++ [digC 3 i]) := Lib.hid (nums_snoc i)
      have HW4 := Lib.hid hW4; have HSS := Lib.hid hS
      clear hI hS hi hlt hW4
      go_wp2_with fail
      refine wp_region_any (by kernel_rfl) ?_
      change wpAny _ _ _ _ _ _ _ (World.drew _)
      rw [← HW4.out]
      clear c0
      refine wpAny_take (i := 0) (v := (.pointer (some ⟨w.heap.size, 0, none⟩))) rfl (by kernel_rfl) (by kernel_rfl) (by kernel_rfl) (fun _ _ _ h => h) (Or.inl ⟨by rfl, fun wq => ?_⟩) ?_
      · go_simp
      try simp only [Act.put, List.setIfInBounds_toArray, List.set_cons_zero, List.set_cons_succ]
      refine wpAny_take (i := 2) (v := (.int .i64 (i : Nat))) rfl (by kernel_rfl) (by kernel_rfl) (by kernel_rfl) (fun _ _ _ h => h) (Or.inl ⟨by rfl, fun wq => ?_⟩) ?_
      · go_simp
      try simp only [Act.put, List.setIfInBounds_toArray, List.set_cons_zero, List.set_cons_succ]
      refine wpAny_ready (rs := [1, 3]) (by kernel_rfl) (by simp) (AllReady.cons rfl (fun KK hK => ?_) (AllReady.cons rfl (fun KK hK => ?_) AllReady.nil))
      · go_simp
        refine hK _ _ ?_
        clear hK KK
        try simp only [Act.put, List.setIfInBounds_toArray, List.set_cons_zero, List.set_cons_succ]
        refine wpAny_ready (rs := [3]) (by kernel_rfl) (by simp) (AllReady.cons rfl (fun KK hK => ?_) AllReady.nil)
        go_simp
        go_at_call 33
        refine (HDG.out _).mono ?_
        rintro e w' ⟨rfl, rfl⟩
        refine hK _ _ ?_
        clear hK KK
        try simp only [Act.put, List.setIfInBounds_toArray, List.set_cons_zero, List.set_cons_succ]
        refine wpAny_ready (rs := [4]) (by kernel_rfl) (by simp) (AllReady.cons rfl (fun KK hK => ?_) AllReady.nil)
        refine step_bldT rfl 25 24 rfl rfl rfl ?_
        intro W5 hW5
        have hI5 := HI4.out.keep (show Kp W4 W5 by rw [hW5]; exact kp_alloc _ _)
        have hb5 : Blk W5 W4.heap.size 9 #[.string (st (digC 3 i))] := by rw [hW5, HSS.out]; exact Blk.new _ _ _
        have c5 := hI5.blk.cell 0 rfl
        clear hW5
        refine hK _ _ ?_
        clear hK KK
        try simp only [Act.put, List.setIfInBounds_toArray, List.set_cons_zero, List.set_cons_succ]
        refine wpAny_ready (rs := [5]) (by kernel_rfl) (by simp) (AllReady.cons rfl (fun KK hK => ?_) AllReady.nil)
        refine step_tx (w := w) rfl (.tmp 22) (.tmp 25) rfl (.slice u1 u2 u3) rfl hI5.ow HLN.out (digC 3 i) HTO.out W4.heap.size rfl hb5 ?_
        intro v6 w6 ho6 hg6 ha6
        obtain ⟨⟨x1, x2, x3, rfl⟩, -⟩ := row_frc ho6.owns
        obtain ⟨hb6, hI7⟩ := hI5.text ho6 hg6 ha6
        have c6 := hb6.cell 0 rfl
        have f6 := hb6.free 0
        rw [← HNS.out] at hI7
        have HX := Lib.hid hI7
        clear ho6 hg6 ha6 hb6 hI7
        refine hK _ _ ?_
        clear hK KK
        try simp only [Act.put, List.setIfInBounds_toArray, List.set_cons_zero, List.set_cons_succ]
        refine wpAny_ready (rs := [6]) (by kernel_rfl) (by simp) (AllReady.cons rfl (fun KK hK => ?_) AllReady.nil)
        go_simp
        refine hK _ _ ?_
        clear hK KK
        try simp only [Act.put, List.setIfInBounds_toArray, List.set_cons_zero, List.set_cons_succ]
        refine wpAny_ready (rs := [7]) (by kernel_rfl) (by simp) (AllReady.cons rfl (fun KK hK => ?_) AllReady.nil)
        go_simp
        refine hK _ _ ?_
        clear hK KK
        try simp only [Act.put, List.setIfInBounds_toArray, List.set_cons_zero, List.set_cons_succ]
        refine wpAny_done (by kernel_rfl) ?_ _
        go_wp2_with fail
        go_roundw
        case rel => exact ⟨i + 1, _, by go_num, by omega, HX.out⟩
        case measure => simp [intOf]; omega
      · go_simp
        go_at_call 33
        refine (HDG.out _).mono ?_
        rintro e w' ⟨rfl, rfl⟩
        refine hK _ _ ?_
        clear hK KK
        try simp only [Act.put, List.setIfInBounds_toArray, List.set_cons_zero, List.set_cons_succ]
        refine wpAny_ready (rs := [1, 4]) (by kernel_rfl) (by simp) (AllReady.cons rfl (fun KK hK => ?_) (AllReady.cons rfl (fun KK hK => ?_) AllReady.nil))
        · go_simp
          refine hK _ _ ?_
          clear hK KK
          try simp only [Act.put, List.setIfInBounds_toArray, List.set_cons_zero, List.set_cons_succ]
          refine wpAny_ready (rs := [4]) (by kernel_rfl) (by simp) (AllReady.cons rfl (fun KK hK => ?_) AllReady.nil)
          refine step_bldT rfl 25 24 rfl rfl rfl ?_
          intro W5 hW5
          have hI5 := HI4.out.keep (show Kp W4 W5 by rw [hW5]; exact kp_alloc _ _)
          have hb5 : Blk W5 W4.heap.size 9 #[.string (st (digC 3 i))] := by rw [hW5, HSS.out]; exact Blk.new _ _ _
          have c5 := hI5.blk.cell 0 rfl
          clear hW5
          refine hK _ _ ?_
          clear hK KK
          try simp only [Act.put, List.setIfInBounds_toArray, List.set_cons_zero, List.set_cons_succ]
          refine wpAny_ready (rs := [5]) (by kernel_rfl) (by simp) (AllReady.cons rfl (fun KK hK => ?_) AllReady.nil)
          refine step_tx (w := w) rfl (.tmp 22) (.tmp 25) rfl (.slice u1 u2 u3) rfl hI5.ow HLN.out (digC 3 i) HTO.out W4.heap.size rfl hb5 ?_
          intro v6 w6 ho6 hg6 ha6
          obtain ⟨⟨x1, x2, x3, rfl⟩, -⟩ := row_frc ho6.owns
          obtain ⟨hb6, hI7⟩ := hI5.text ho6 hg6 ha6
          have c6 := hb6.cell 0 rfl
          have f6 := hb6.free 0
          rw [← HNS.out] at hI7
          have HX := Lib.hid hI7
          clear ho6 hg6 ha6 hb6 hI7
          refine hK _ _ ?_
          clear hK KK
          try simp only [Act.put, List.setIfInBounds_toArray, List.set_cons_zero, List.set_cons_succ]
          refine wpAny_ready (rs := [6]) (by kernel_rfl) (by simp) (AllReady.cons rfl (fun KK hK => ?_) AllReady.nil)
          go_simp
          refine hK _ _ ?_
          clear hK KK
          try simp only [Act.put, List.setIfInBounds_toArray, List.set_cons_zero, List.set_cons_succ]
          refine wpAny_ready (rs := [7]) (by kernel_rfl) (by simp) (AllReady.cons rfl (fun KK hK => ?_) AllReady.nil)
          go_simp
          refine hK _ _ ?_
          clear hK KK
          try simp only [Act.put, List.setIfInBounds_toArray, List.set_cons_zero, List.set_cons_succ]
          refine wpAny_done (by kernel_rfl) ?_ _
          go_wp2_with fail
          go_roundw
          case rel => exact ⟨i + 1, _, by go_num, by omega, HX.out⟩
          case measure => simp [intOf]; omega
        · refine step_bldT rfl 25 24 rfl rfl rfl ?_
          intro W5 hW5
          have hI5 := HI4.out.keep (show Kp W4 W5 by rw [hW5]; exact kp_alloc _ _)
          have hb5 : Blk W5 W4.heap.size 9 #[.string (st (digC 3 i))] := by rw [hW5, HSS.out]; exact Blk.new _ _ _
          have c5 := hI5.blk.cell 0 rfl
          clear hW5
          refine hK _ _ ?_
          clear hK KK
          try simp only [Act.put, List.setIfInBounds_toArray, List.set_cons_zero, List.set_cons_succ]
          refine wpAny_ready (rs := [1]) (by kernel_rfl) (by simp) (AllReady.cons rfl (fun KK hK => ?_) AllReady.nil)
          go_simp
          refine hK _ _ ?_
          clear hK KK
          try simp only [Act.put, List.setIfInBounds_toArray, List.set_cons_zero, List.set_cons_succ]
          refine wpAny_ready (rs := [5]) (by kernel_rfl) (by simp) (AllReady.cons rfl (fun KK hK => ?_) AllReady.nil)
          refine step_tx (w := w) rfl (.tmp 22) (.tmp 25) rfl (.slice u1 u2 u3) rfl hI5.ow HLN.out (digC 3 i) HTO.out W4.heap.size rfl hb5 ?_
          intro v6 w6 ho6 hg6 ha6
          obtain ⟨⟨x1, x2, x3, rfl⟩, -⟩ := row_frc ho6.owns
          obtain ⟨hb6, hI7⟩ := hI5.text ho6 hg6 ha6
          have c6 := hb6.cell 0 rfl
          have f6 := hb6.free 0
          rw [← HNS.out] at hI7
          have HX := Lib.hid hI7
          clear ho6 hg6 ha6 hb6 hI7
          refine hK _ _ ?_
          clear hK KK
          try simp only [Act.put, List.setIfInBounds_toArray, List.set_cons_zero, List.set_cons_succ]
          refine wpAny_ready (rs := [6]) (by kernel_rfl) (by simp) (AllReady.cons rfl (fun KK hK => ?_) AllReady.nil)
          go_simp
          refine hK _ _ ?_
          clear hK KK
          try simp only [Act.put, List.setIfInBounds_toArray, List.set_cons_zero, List.set_cons_succ]
          refine wpAny_ready (rs := [7]) (by kernel_rfl) (by simp) (AllReady.cons rfl (fun KK hK => ?_) AllReady.nil)
          go_simp
          refine hK _ _ ?_
          clear hK KK
          try simp only [Act.put, List.setIfInBounds_toArray, List.set_cons_zero, List.set_cons_succ]
          refine wpAny_done (by kernel_rfl) ?_ _
          go_wp2_with fail
          go_roundw
          case rel => exact ⟨i + 1, _, by go_num, by omega, HX.out⟩
          case measure => simp [intOf]; omega

    · obtain rfl : i = K := by omega
      have hnw : TxOk [110, 101, 119] := ⟨Lt.cons (by decide) (Lt.cons (by decide) (Lt.one (by decide))), by decide⟩
      have h7 : TxOk [55] := ⟨Lt.one (by decide), by decide⟩
      have hnm : ([110, 101, 119] : Tx) ∉ nums i := nums_not (by omega) (c := 110) (by simp) (by decide)
      have s3 : (⟨#[110, 101, 119]⟩ : ByteArray) = st [110, 101, 119] := by decide
      have s7 : (⟨#[55]⟩ : ByteArray) = st [55] := by decide
      have hlen : (nums i).length = i := nums_len i
      have hnd := nums_nodup (k := i) (by omega)
      have hb0 := hI.blk
      have HB0 := Lib.hid hb0
      have c0 := hb0.cell 0 rfl
      have HPU : Hid (Calls Try.prog 13 #[.agg #[.slice u1 u2 u3], .string ⟨#[110, 101, 119]⟩] wr (PutR [110, 101, 119] (nums i) wr)) := Lib.hid (by
        rw [s3]; exact HP hI.ow.tw (by omega) hnw)
      have HTW := Lib.hid hI.ow.tw
      have HKW := Lib.hid hI.kp
      have HAW := Lib.hid (fun W => awake13_any HP HG W)
      have HCK : Hid (∀ W, Kp wr W → Calls Try.prog 9 #[.agg #[.slice u1 u2 u3]] W fun e w' => e = .returned (.int .i64 (err (nums i) : Nat)) ∧ Kp W w') := Lib.hid (fun W hk => HC (hI.ow.tw.keep hk))
      have HP7 : Hid (∀ W, Kp wr W → Calls Try.prog 13 #[.agg #[.slice u1 u2 u3], .string ⟨#[55]⟩] W (PutR [55] (nums i) W)) := Lib.hid (fun W hk => by
        rw [s7]; exact HP (hI.ow.tw.keep hk) (by omega) h7)
      clear hb0 s3 s7 hI hnw
      by_cases hk7 : i = 4097
      · have he : err (nums i) = 2 := if_pos (by omega)
        have hpe : ptE [110, 101, 119] (nums i) = 2 := by rw [ptE_bad (by omega), he]
        have HPE := Lib.hid hpe
        rw [he] at HCK
        have j1 : (4096 : Int) < (i : Int) := by omega
        clear he hpe hk7 hlen hnd hnm h7 hlt hi
        go_wp2_with fail
        refine HPU.out.mono ?_
        rintro e w2 ⟨v2, rfl, hv2, -, hk2⟩
        rw [HPE.out]
        obtain ⟨va, vc, rfl, -⟩ := hv2.open3
        obtain ⟨vl, hvl⟩ : ∃ l, l = (ptL [110, 101, 119] (nums i)).length := ⟨_, rfl⟩
        rw [← hvl]
        have hkk : Kp wr (w2.alloc (.cells #[.slice va vl vc] 25)) := hk2.trans (kp_alloc _ _)
        have HK2 := Lib.hid hkk
        have c2 := (HB0.out.keep hkk).cell 0 rfl
        clear hv2 hk2 hkk hvl
        go_wp2_with fail
        refine (HCK.out _ HK2.out).mono ?_
        rintro e w3 ⟨rfl, hk3⟩
        have HK3 := Lib.hid (HK2.out.trans hk3)
        clear hk3 c2
        go_wp2_with fail
        refine (HAW.out w3).mono ?_
        rintro e w4 ⟨rfl, hk4⟩
        have HK4 := Lib.hid ((HKW.out.trans HK3.out).trans hk4)
        clear hk4
        go_wp2_with fail
        go_ret
        exact ⟨rfl, HK4.out⟩
      · have he : err (nums i) = 0 := err_ok.2 ⟨by omega, hnd⟩
        have j1 : (i : Int) ≤ 4096 := by omega
        rw [he] at HCK
        by_cases hk6 : i = 4096
        · have hpe : ptE [110, 101, 119] (nums i) = 2 := ptE_full he hnm (by omega)
          have hm7 : [55] ∈ nums i := List.mem_of_getElem? (nums_at (k := i) (i := 7) (by omega))
          have hp7 : ptE [55] (nums i) = 0 := ptE_in he hm7
          have hn7 : ptN [55] (nums i) = 7 := by
            rw [(ptL_ok hp7).2, add_in hm7]
            exact fnd_nodup hnd (nums_at (k := i) (i := 7) (by omega))
          have HPE := Lib.hid hpe; have HE7 := Lib.hid hp7; have HN7 := Lib.hid hn7
          have j2 : ((i : Int) == 4096) = true := beq_iff_eq.2 (by omega)
          clear he hpe hk7 hlen hnd hnm h7 hlt hi hm7 hp7 hn7 hk6
          go_wp2_with fail
          refine HPU.out.mono ?_
          rintro e w2 ⟨v2, rfl, hv2, -, hk2⟩
          rw [HPE.out]
          obtain ⟨va, vc, rfl, -⟩ := hv2.open3
          obtain ⟨vl, hvl⟩ : ∃ l, l = (ptL [110, 101, 119] (nums i)).length := ⟨_, rfl⟩
          rw [← hvl]
          have hkk : Kp wr (w2.alloc (.cells #[.slice va vl vc] 25)) := hk2.trans (kp_alloc _ _)
          have HK2 := Lib.hid hkk
          have c2 := (HB0.out.keep hkk).cell 0 rfl
          clear hv2 hk2 hkk hvl
          go_wp2_with fail
          refine (HP7.out _ HK2.out).mono ?_
          rintro e w3 ⟨v3, rfl, hv3, -, hk3⟩
          rw [HE7.out, HN7.out]
          obtain ⟨ya, yc, rfl, -⟩ := hv3.open3
          obtain ⟨yl, hyl⟩ : ∃ l, l = (ptL [55] (nums i)).length := ⟨_, rfl⟩
          rw [← hyl]
          have hkk : Kp wr (w3.alloc (.cells #[.slice ya yl yc] 25)) := (HK2.out.trans hk3).trans (kp_alloc _ _)
          have HK3 := Lib.hid hkk
          have c3 := (HB0.out.keep hkk).cell 0 rfl
          clear hv3 hk3 hkk c2 hyl
          go_wp2_with fail
          refine (HCK.out _ HK3.out).mono ?_
          rintro e w4 ⟨rfl, hk4⟩
          have HK4 := Lib.hid (HK3.out.trans hk4)
          clear hk4 c3
          go_wp2_with fail
          refine (HAW.out w4).mono ?_
          rintro e w5 ⟨rfl, hk5⟩
          have HK5 := Lib.hid ((HKW.out.trans HK4.out).trans hk5)
          clear hk5
          go_wp2_with fail
          go_ret
          exact ⟨rfl, HK5.out⟩
        · have hpe : ptE [110, 101, 119] (nums i) = 0 := ptE_new he (by omega)
          have hpl : (ptL [110, 101, 119] (nums i)).length = i + 1 := by
            rw [(ptL_ok hpe).1, add_new hnm, List.length_append, hlen]; rfl
          have hpn : ptN [110, 101, 119] (nums i) = i := by rw [(ptL_ok hpe).2, add_new hnm, fnd_snoc hnm, hlen]
          have HPE := Lib.hid hpe; have HPL := Lib.hid hpl; have HPN := Lib.hid hpn
          have j2 : ((i : Int) == 4096) = false := beq_eq_false_iff_ne.2 (by omega)
          clear he hpe hk7 hlen hnd hnm h7 hlt hi hpl hpn hk6
          go_wp2_with fail
          refine HPU.out.mono ?_
          rintro e w2 ⟨v2, rfl, hv2, -, hk2⟩
          obtain ⟨va, vc, rfl, -⟩ := hv2.open3
          rw [HPE.out, HPL.out, HPN.out]
          have HK2 : Hid (Kp wr (w2.alloc (.cells #[.slice va (i + 1) vc] 25))) := Lib.hid (hk2.trans (kp_alloc _ _))
          clear hv2 hk2
          go_wp2_with fail
          refine (HAW.out _).mono ?_
          rintro e w5 ⟨rfl, hk5⟩
          have HK5 := Lib.hid ((HKW.out.trans HK2.out).trans hk5)
          clear hk5
          go_wp2_with fail
          go_ret
          exact ⟨rfl, HK5.out⟩
end By
end Go.Proofs.Ytlfoikjbbbhbdaa
