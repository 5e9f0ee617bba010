/- The program's Tokens. Condition: none beyond a string's length. -/
import Derived.Test.YtmflgfojicaecaaGreatDoorMLc
import Derived.WalkMore
namespace Go.Proofs.YtmflgfojicaecaaGreatDoor
namespace By
open Go.RowKit WireN LexN
set_option linter.unusedVariables false
set_option linter.unusedSimpArgs false

/-- What Tokens answers: tokens in a row of its own, an offset, an error. -/
structure TokensR (r : Ans) (w : World) (e : Ending) (w' : World) : Prop where
  ex : ∃ v w1, e = .returned (.tuple #[v, .int .i64 (r.2.1 : Nat), .int .i64 (r.2.2 : Nat)]) ∧ TRow w1 w' v r.1 ∧ Kp w w1
theorem TokensR.none {r : Ans} {w w' : World} {i e : Nat} (hr : r = ([], i, e)) (hk : Kp w w') : TokensR r w (.returned (.tuple #[.slice none 0 0, .int .i64 (i : Nat), .int .i64 (e : Nat)])) w' := by
  subst hr
  exact ⟨_, w', rfl, TRow.start w', hk⟩
theorem tok_none {l : List Nat} {i : Nat} (h1 : letter (at' l i) = false) (h2 : digit (at' l i) = false) (h3 : at' l i ≠ 34) (h4 : sgn (at' l i) = false) : tok l i = (Tok.zero, 0, 9) := by
  have h5 : at' l i ≠ 61 := by
    intro e
    rw [e] at h4
    exact absurd h4 (by decide)
  unfold tok
  rw [if_neg (by simp [h1]), if_neg (by simp [h2]), if_neg h3, if_neg (fun h => h5 h.1), if_neg (by simp [h4])]
theorem ahead_tok {ts : List Tok} {r : Ans} {t : Tok} : aheadL ts (aheadL [t] r) = aheadL (ts ++ [t]) r := aheadL_aheadL _ _ _
theorem ahead_err (ts : List Tok) {i e : Nat} (h : e ≠ 0) : aheadL ts ([], i, e) = ([], i, e) := by unfold aheadL; rw [if_neg h]
theorem ahead_end (ts : List Tok) (n : Nat) : aheadL ts ([(5, [], 0, n)], 0, 0) = (ts ++ [(5, [], 0, n)], 0, 0) := by unfold aheadL; rw [if_pos rfl]

set_option maxRecDepth 100000 in
set_option maxHeartbeats 400000 in
theorem Tokens_long {l : List Nat} (hlen : 16384 < l.length) (w : World) : Calls Tryz.prog 48 #[.string (st l)] w (TokensR (toks l) w) := by
  have FIN : Hid (TokensR (toks l) w (.returned (.tuple #[.slice none 0 0, .int .i64 0, .int .i64 2])) w) := Lib.hid (TokensR.none (by unfold toks; rw [if_pos hlen]) (Kp.refl w))
  obtain ⟨R, hR⟩ : ∃ R, R = TokensR (toks l) w := ⟨_, rfl⟩
  rw [← hR] at FIN ⊢
  obtain ⟨n, hn⟩ : ∃ n, n = l.length := ⟨_, rfl⟩
  have qs : ∀ w, (Builtin.len_ #[9] 3 #[.string (st l)]).run Tryz.prog w = .ok (goInt n) w := fun w => by rw [hn]; exact len w
  obtain ⟨S, hS⟩ : ∃ S, S = st l := ⟨_, rfl⟩
  rw [← hS] at qs ⊢
  have hb : (16384 : Int) < (n : Int) := by omega
  clear hR hn hS hlen
  go_enter Tryz.func48, Tryz.ntmps48
  go_wp2_with fail
  go_step3
  go_wp2_with fail
  (rw [Exit.noGoto_ret]; go_ret3)
  exact FIN.out

set_option maxRecDepth 100000 in
set_option maxHeartbeats 4000000 in
theorem Tokens_ok {l : List Nat} (hl : Lt l) (hlen : l.length ≤ 16384) (w : World) : Calls Tryz.prog 48 #[.string (st l)] w (TokensR (toks l) w) := by
  have htk : toks l = lex l 0 := by unfold toks; rw [if_neg (by omega)]
  rw [htk]
  obtain ⟨R, hR⟩ : ∃ R, R = TokensR (lex l 0) w := ⟨_, rfl⟩
  have HR := Lib.hid hR
  obtain ⟨n, hn⟩ : ∃ n, n = l.length := ⟨_, rfl⟩
  have HN := Lib.hid hn
  have qs : ∀ w, (Builtin.len_ #[9] 3 #[.string (st l)]).run Tryz.prog w = .ok (goInt n) w := fun w => by rw [hn]; exact len w
  have HSL : Hid (l.length ≤ 16384) := Lib.hid hlen
  have hnb : (n : Int) ≤ 16384 := by omega
  obtain ⟨S, hS⟩ : ∃ S, S = st l := ⟨_, rfl⟩
  have HS := Lib.hid hS
  have HL := Lib.hid hl
  rw [← hS] at qs
  rw [← hR, ← hS]
  clear hR hn hS hlen hl htk
  go_enter Tryz.func48, Tryz.ntmps48
  go_wp2_with fail
  go_step3
  go_wp2_with fail
  refine (kinds_any _).mono ?_
  rintro e w1 ⟨b, rfl, hkm, hk1⟩
  have HKM := Lib.hid hkm; have HK1 := Lib.hid hk1
  clear hkm hk1
  go_wp2_with fail
  go_step3
  go_wp2_with fail
  go_loopw [2, 3, 4] (fun v p e wr => e = .int .i64 0 ∧ ∃ (k : Nat) (ts : List Tok), p = .int .i64 k ∧ k ≤ n ∧ ts.length ≤ k ∧ TRow w1 wr v ts ∧ lex l 0 = aheadL ts (lex l k)) (fun _ p _ _ => n - (intOf p).toNat)
  case atStart => exact ⟨rfl, 0, [], rfl, by omega, by simp, TRow.start w1, (aheadL_nil _).symm⟩
  case round =>
    obtain ⟨rfl, k, ts, rfl, hk, htl, hrow, heq⟩ := hrel
    rename World => wx
    have HTL := Lib.hid htl; have HROW := Lib.hid hrow; have HEQ := Lib.hid heq
    obtain ⟨ao, cap, hv, -⟩ := hrow.form
    subst hv
    obtain ⟨tn, htn⟩ : ∃ tn, tn = ts.length := ⟨_, rfl⟩
    have HTN := Lib.hid htn
    rw [← htn] at HROW ⊢
    clear htl hrow heq htn
    by_cases hkn : k < n
    · have hx : ∀ w, (Instr.index 9 (.string S) (.int .i64 (k : Int))).run Tryz.prog w = .ok (.int .u8 (at' l k : Nat)) w := fun w => by rw [HS.out]; exact idx HL.out (by have := HN.out; omega) w
      have hcb := HL.out k
      have HKN : Hid (k < l.length) := Lib.hid (by have := HN.out; omega)
      have hkz := kp_alloc wx (.cells #[.int .i64 0, .string ⟨#[]⟩, .int .i64 0, .int .i64 0] 111)
      have hlk := (HKM.out.keep (Kp.trans HROW.out.kp hkz)).get (c := at' l k) hcb
      have HBZ := Lib.hid (Blk.new wx 111 #[.int .i64 0, .string ⟨#[]⟩, .int .i64 0, .int .i64 0])
      have HKZ := Lib.hid hkz
      obtain ⟨c, hc⟩ : ∃ c, c = at' l k := ⟨_, rfl⟩
      have HC := Lib.hid hc
      clear hcb hkz
      by_cases hb : LexN.blank c = true
      · have hkd : kd (at' l k) = 1 := by rw [← hc]; unfold kd; rw [if_pos hb]
        have HEQ2 : Hid (lex l 0 = aheadL ts (lex l (k + 1))) := Lib.hid (by rw [HEQ.out, lex_blank HKN.out (by rw [← hc]; exact hb)])
        rw [hkd] at hlk
        rw [← hc] at hx hlk
        clear hc hb hkd
        go_wp2_with fail
        go_roundw
        case rel => exact ⟨rfl, k + 1, ts, by go_num, by omega, by have := HTL.out; omega, HROW.out.keep HKZ.out, HEQ2.out⟩
        case measure => simp [intOf]; omega
      · have hb' : LexN.blank c = false := by simpa using hb
        by_cases h35 : c = 35
        · have hkd : kd (at' l k) = 2 := by rw [← hc]; unfold kd; rw [if_neg hb, if_pos h35]
          have HEQ2 : Hid (lex l 0 = aheadL ts (lex l (spn line l k))) := Lib.hid (by rw [HEQ.out, lex_comment HKN.out (by rw [← hc]; exact h35)])
          have hsl := spn_line HKN.out (by rw [← hc]; exact h35)
          have HSP : Hid (Calls Tryz.prog 82 #[.string S, .int .i64 (k : Nat), .func (.func 83) #[] #[]] (wx.alloc (.cells #[.int .i64 0, .string ⟨#[]⟩, .int .i64 0, .int .i64 0] 111)) fun e w' => e = .returned (.int .i64 (spn line l k : Nat)) ∧ (wx.alloc (.cells #[.int .i64 0, .string ⟨#[]⟩, .int .i64 0, .int .i64 0] 111)) = w') := Lib.hid (by
            rw [HS.out]; exact span_any HL.out (by have := HSL.out; omega) fitsLine (by have := HKN.out; omega) _)
          rw [hkd] at hlk
          rw [← hc] at hx hlk
          obtain ⟨q, hq⟩ : ∃ q, q = spn line l k := ⟨_, rfl⟩
          rw [← hq] at hsl HEQ2 HSP
          have HSQ := Lib.hid hsl
          clear hc hb hb' hkd h35 hq hsl
          go_wp2_with fail
          refine HSP.out.mono ?_
          rintro e w' ⟨rfl, rfl⟩
          go_wp2_with fail
          go_roundw
          case rel => exact ⟨rfl, q, ts, rfl, by have := HSQ.out; have := HN.out; omega, by have := HTL.out; have := HSQ.out; omega, HROW.out.keep HKZ.out, HEQ2.out⟩
          case measure => have := HSQ.out; simp [intOf]; omega
        · clear hb
          rw [hc] at hb' h35
          have hb := hb'
          clear hb'
          by_cases hlet : letter (at' l k) = true
          · have hkd : kd (at' l k) = 3 := by unfold kd; rw [if_neg (by rw [hb]; decide), if_neg h35, if_pos hlet]
            rw [hkd] at hlk
            have hcall : Calls Tryz.prog 84 #[.string S, .int .i64 (k : Nat)] (wx.alloc (.cells #[.int .i64 0, .string ⟨#[]⟩, .int .i64 0, .int .i64 0] 111)) (TokA (tok l k) (wx.alloc (.cells #[.int .i64 0, .string ⟨#[]⟩, .int .i64 0, .int .i64 0] 111))) := by
              rw [HS.out]; exact nameAt_any HL.out HSL.out HKN.out hlet _
            have HCALL := Lib.hid hcall
            rw [← HC.out] at hx hlk
            clear hcall hkd hc
            go_wp2_with fail
            refine HCALL.out.mono ?_
            rintro e w2 ⟨rfl, hk2⟩
            obtain ⟨⟨⟨K, TX, NM, AT⟩, NX, E⟩, htok⟩ : ∃ r, r = tok l k := ⟨_, rfl⟩
            rw [← htok]
            unfold tokR tokV
            simp only
            have HTOK := Lib.hid htok
            have hB := HBZ.out.keep hk2
            have HKW : Hid (Kp wx w2) := Kp.trans HKZ.out hk2
            have c0 := hB.cell 0 rfl; have c1 := hB.cell 1 rfl; have c2 := hB.cell 2 rfl; have c3 := hB.cell 3 rfl
            have f0 := hB.free 0; have f1 := hB.free 1; have f2 := hB.free 2; have f3 := hB.free 3
            obtain ⟨SX, hSX⟩ : ∃ SX, SX = st TX := ⟨_, rfl⟩
            rw [← hSX]
            have HSX := Lib.hid hSX
            have HNB : Hid (LexN.blank (at' l k) = false ∧ at' l k ≠ 35) := Lib.hid ⟨by first | exact hb | simpa using hb, h35⟩
            clear hB hk2 htok hSX
            by_cases hE : E = 0
            · subst hE
              have HNX : Hid (k < NX ∧ NX ≤ n) := Lib.hid (by
                have h := tok_next HKN.out (congrArg (fun r => r.2.2) HTOK.out.symm)
                rw [← HTOK.out] at h
                have := HN.out
                simp only at h
                omega)
              have HEQ2 : Hid (lex l 0 = aheadL (ts ++ [(K, TX, NM, AT)]) (lex l NX)) := Lib.hid (by
                rw [HEQ.out, lex_tok HKN.out HNB.out.1 HNB.out.2 (congrArg (fun r => r.2.2) HTOK.out.symm), ← HTOK.out]
                exact ahead_tok)
              have HR3 := Lib.hid (HROW.out.keep (kp_four HKW.out (.int .i64 K) (.string SX) (.int .i64 NM) (.int .i64 AT)))
              obtain ⟨W3, hW3⟩ : ∃ W3, W3 = ((((w2.setCell ⟨wx.heap.size, 0, none⟩ (.int .i64 K)).setCell ⟨wx.heap.size, 1, none⟩ (.string SX)).setCell ⟨wx.heap.size, 2, none⟩ (.int .i64 NM)).setCell ⟨wx.heap.size, 3, none⟩ (.int .i64 AT)) := ⟨_, rfl⟩
              have hz3 : w2.heap.size = W3.heap.size := by rw [hW3]; simp
              have HR4 : Hid (TRow w1 (W3.alloc (.cells #[.int .i64 K, .string SX, .int .i64 NM, .int .i64 AT] 111)) (.slice ao tn cap) ts) := Lib.hid ((hW3 ▸ HR3.out).keep (kp_alloc _ _))
              have HB4 : Hid (Blk (W3.alloc (.cells #[.int .i64 K, .string SX, .int .i64 NM, .int .i64 AT] 111)) w2.heap.size 111 (tcell (K, TX, NM, AT)).toArray) := Lib.hid (by
                rw [hz3]
                have e : (tcell (K, TX, NM, AT)).toArray = #[.int .i64 K, .string SX, .int .i64 NM, .int .i64 AT] := by rw [HSX.out]; rfl
                rw [e]; exact Blk.new _ _ _)
              have HTE : Hid (ts.length ≤ 100000) := Lib.hid (by have := HTL.out; have := HSL.out; have := HKN.out; omega)
              rw [hW3] at HR4 HB4
              clear hz3 hW3 HR3
              go_wp2_with (at_builtin; refine wpList_tok (w := w1) rfl (.tmp 71) (.tmp 73) rfl _ ts rfl HR4.out (K, TX, NM, AT) w2.heap.size rfl HB4.out HTE.out ?_)
              intro v5 w5 hrow5
              have HR5 := Lib.hid hrow5
              have HL5 : Hid ((ts ++ [(K, TX, NM, AT)]).length ≤ NX) := Lib.hid (by have := HTL.out; have := HNX.out; simp; omega)
              clear hrow5
              go_wp2_with fail
              go_roundw
              case rel => exact ⟨rfl, NX, _, rfl, HNX.out.2, HL5.out, HR5.out, HEQ2.out⟩
              case measure => have := HNX.out; simp [intOf]; omega
            · have FIN : Hid (∀ w', Kp wx w' → R (.returned (.tuple #[.slice none 0 0, .int .i64 (k : Nat), .int .i64 (E : Nat)])) w') := Lib.hid (fun w' hk => by
                rw [HR.out]
                refine TokensR.none ?_ (Kp.trans HK1.out (Kp.trans HROW.out.kp hk))
                rw [HEQ.out, lex_err HKN.out HNB.out.1 HNB.out.2 (by have e := congrArg (fun r => r.2.2) HTOK.out.symm; simp only at e; rw [e]; exact hE), ← HTOK.out]
                exact ahead_err ts hE)
              have hq1 : ((E : Int) == 0) = false := beq_eq_false_iff_ne.2 (by omega)
              have hq2 : ((E : Int) != 0) = true := by rw [bne_iff_ne]; omega
              clear hE
              go_wp2_with fail
              (rw [Exit.noGoto_ret]; go_ret3)
              exact FIN.out _ (kp_four HKW.out _ _ _ _)
          · skip
            by_cases hdig : digit (at' l k) = true
            · have hkd : kd (at' l k) = 4 := by unfold kd; rw [if_neg (by rw [hb]; decide), if_neg h35, if_neg hlet, if_pos hdig]
              rw [hkd] at hlk
              have hcall : Calls Tryz.prog 85 #[.string S, .int .i64 (k : Nat)] (wx.alloc (.cells #[.int .i64 0, .string ⟨#[]⟩, .int .i64 0, .int .i64 0] 111)) (TokA (tok l k) (wx.alloc (.cells #[.int .i64 0, .string ⟨#[]⟩, .int .i64 0, .int .i64 0] 111))) := by
                rw [HS.out]; exact numberAt_any HL.out HSL.out HKN.out hdig _
              have HCALL := Lib.hid hcall
              rw [← HC.out] at hx hlk
              clear hcall hkd hc
              go_wp2_with fail
              refine HCALL.out.mono ?_
              rintro e w2 ⟨rfl, hk2⟩
              obtain ⟨⟨⟨K, TX, NM, AT⟩, NX, E⟩, htok⟩ : ∃ r, r = tok l k := ⟨_, rfl⟩
              rw [← htok]
              unfold tokR tokV
              simp only
              have HTOK := Lib.hid htok
              have hB := HBZ.out.keep hk2
              have HKW : Hid (Kp wx w2) := Kp.trans HKZ.out hk2
              have c0 := hB.cell 0 rfl; have c1 := hB.cell 1 rfl; have c2 := hB.cell 2 rfl; have c3 := hB.cell 3 rfl
              have f0 := hB.free 0; have f1 := hB.free 1; have f2 := hB.free 2; have f3 := hB.free 3
              obtain ⟨SX, hSX⟩ : ∃ SX, SX = st TX := ⟨_, rfl⟩
              rw [← hSX]
              have HSX := Lib.hid hSX
              have HNB : Hid (LexN.blank (at' l k) = false ∧ at' l k ≠ 35) := Lib.hid ⟨by first | exact hb | simpa using hb, h35⟩
              clear hB hk2 htok hSX
              by_cases hE : E = 0
              · subst hE
                have HNX : Hid (k < NX ∧ NX ≤ n) := Lib.hid (by
                  have h := tok_next HKN.out (congrArg (fun r => r.2.2) HTOK.out.symm)
                  rw [← HTOK.out] at h
                  have := HN.out
                  simp only at h
                  omega)
                have HEQ2 : Hid (lex l 0 = aheadL (ts ++ [(K, TX, NM, AT)]) (lex l NX)) := Lib.hid (by
                  rw [HEQ.out, lex_tok HKN.out HNB.out.1 HNB.out.2 (congrArg (fun r => r.2.2) HTOK.out.symm), ← HTOK.out]
                  exact ahead_tok)
                have HR3 := Lib.hid (HROW.out.keep (kp_four HKW.out (.int .i64 K) (.string SX) (.int .i64 NM) (.int .i64 AT)))
                obtain ⟨W3, hW3⟩ : ∃ W3, W3 = ((((w2.setCell ⟨wx.heap.size, 0, none⟩ (.int .i64 K)).setCell ⟨wx.heap.size, 1, none⟩ (.string SX)).setCell ⟨wx.heap.size, 2, none⟩ (.int .i64 NM)).setCell ⟨wx.heap.size, 3, none⟩ (.int .i64 AT)) := ⟨_, rfl⟩
                have hz3 : w2.heap.size = W3.heap.size := by rw [hW3]; simp
                have HR4 : Hid (TRow w1 (W3.alloc (.cells #[.int .i64 K, .string SX, .int .i64 NM, .int .i64 AT] 111)) (.slice ao tn cap) ts) := Lib.hid ((hW3 ▸ HR3.out).keep (kp_alloc _ _))
                have HB4 : Hid (Blk (W3.alloc (.cells #[.int .i64 K, .string SX, .int .i64 NM, .int .i64 AT] 111)) w2.heap.size 111 (tcell (K, TX, NM, AT)).toArray) := Lib.hid (by
                  rw [hz3]
                  have e : (tcell (K, TX, NM, AT)).toArray = #[.int .i64 K, .string SX, .int .i64 NM, .int .i64 AT] := by rw [HSX.out]; rfl
                  rw [e]; exact Blk.new _ _ _)
                have HTE : Hid (ts.length ≤ 100000) := Lib.hid (by have := HTL.out; have := HSL.out; have := HKN.out; omega)
                rw [hW3] at HR4 HB4
                clear hz3 hW3 HR3
                go_wp2_with (at_builtin; refine wpList_tok (w := w1) rfl (.tmp 71) (.tmp 73) rfl _ ts rfl HR4.out (K, TX, NM, AT) w2.heap.size rfl HB4.out HTE.out ?_)
                intro v5 w5 hrow5
                have HR5 := Lib.hid hrow5
                have HL5 : Hid ((ts ++ [(K, TX, NM, AT)]).length ≤ NX) := Lib.hid (by have := HTL.out; have := HNX.out; simp; omega)
                clear hrow5
                go_wp2_with fail
                go_roundw
                case rel => exact ⟨rfl, NX, _, rfl, HNX.out.2, HL5.out, HR5.out, HEQ2.out⟩
                case measure => have := HNX.out; simp [intOf]; omega
              · have FIN : Hid (∀ w', Kp wx w' → R (.returned (.tuple #[.slice none 0 0, .int .i64 (k : Nat), .int .i64 (E : Nat)])) w') := Lib.hid (fun w' hk => by
                  rw [HR.out]
                  refine TokensR.none ?_ (Kp.trans HK1.out (Kp.trans HROW.out.kp hk))
                  rw [HEQ.out, lex_err HKN.out HNB.out.1 HNB.out.2 (by have e := congrArg (fun r => r.2.2) HTOK.out.symm; simp only at e; rw [e]; exact hE), ← HTOK.out]
                  exact ahead_err ts hE)
                have hq1 : ((E : Int) == 0) = false := beq_eq_false_iff_ne.2 (by omega)
                have hq2 : ((E : Int) != 0) = true := by rw [bne_iff_ne]; omega
                clear hE
                go_wp2_with fail
                (rw [Exit.noGoto_ret]; go_ret3)
                exact FIN.out _ (kp_four HKW.out _ _ _ _)
            · skip
              by_cases h34 : at' l k = 34
              · have hkd : kd (at' l k) = 5 := by unfold kd; rw [if_neg (by rw [hb]; decide), if_neg h35, if_neg hlet, if_neg hdig, if_pos h34]
                rw [hkd] at hlk
                have hcall : Calls Tryz.prog 86 #[.string S, .int .i64 (k : Nat)] (wx.alloc (.cells #[.int .i64 0, .string ⟨#[]⟩, .int .i64 0, .int .i64 0] 111)) (TokA (tok l k) (wx.alloc (.cells #[.int .i64 0, .string ⟨#[]⟩, .int .i64 0, .int .i64 0] 111))) := by
                  rw [HS.out]; exact textAt_any HL.out HSL.out HKN.out h34 _
                have HCALL := Lib.hid hcall
                rw [← HC.out] at hx hlk
                clear hcall hkd hc
                go_wp2_with fail
                refine HCALL.out.mono ?_
                rintro e w2 ⟨rfl, hk2⟩
                obtain ⟨⟨⟨K, TX, NM, AT⟩, NX, E⟩, htok⟩ : ∃ r, r = tok l k := ⟨_, rfl⟩
                rw [← htok]
                unfold tokR tokV
                simp only
                have HTOK := Lib.hid htok
                have hB := HBZ.out.keep hk2
                have HKW : Hid (Kp wx w2) := Kp.trans HKZ.out hk2
                have c0 := hB.cell 0 rfl; have c1 := hB.cell 1 rfl; have c2 := hB.cell 2 rfl; have c3 := hB.cell 3 rfl
                have f0 := hB.free 0; have f1 := hB.free 1; have f2 := hB.free 2; have f3 := hB.free 3
                obtain ⟨SX, hSX⟩ : ∃ SX, SX = st TX := ⟨_, rfl⟩
                rw [← hSX]
                have HSX := Lib.hid hSX
                have HNB : Hid (LexN.blank (at' l k) = false ∧ at' l k ≠ 35) := Lib.hid ⟨by first | exact hb | simpa using hb, h35⟩
                clear hB hk2 htok hSX
                by_cases hE : E = 0
                · subst hE
                  have HNX : Hid (k < NX ∧ NX ≤ n) := Lib.hid (by
                    have h := tok_next HKN.out (congrArg (fun r => r.2.2) HTOK.out.symm)
                    rw [← HTOK.out] at h
                    have := HN.out
                    simp only at h
                    omega)
                  have HEQ2 : Hid (lex l 0 = aheadL (ts ++ [(K, TX, NM, AT)]) (lex l NX)) := Lib.hid (by
                    rw [HEQ.out, lex_tok HKN.out HNB.out.1 HNB.out.2 (congrArg (fun r => r.2.2) HTOK.out.symm), ← HTOK.out]
                    exact ahead_tok)
                  have HR3 := Lib.hid (HROW.out.keep (kp_four HKW.out (.int .i64 K) (.string SX) (.int .i64 NM) (.int .i64 AT)))
                  obtain ⟨W3, hW3⟩ : ∃ W3, W3 = ((((w2.setCell ⟨wx.heap.size, 0, none⟩ (.int .i64 K)).setCell ⟨wx.heap.size, 1, none⟩ (.string SX)).setCell ⟨wx.heap.size, 2, none⟩ (.int .i64 NM)).setCell ⟨wx.heap.size, 3, none⟩ (.int .i64 AT)) := ⟨_, rfl⟩
                  have hz3 : w2.heap.size = W3.heap.size := by rw [hW3]; simp
                  have HR4 : Hid (TRow w1 (W3.alloc (.cells #[.int .i64 K, .string SX, .int .i64 NM, .int .i64 AT] 111)) (.slice ao tn cap) ts) := Lib.hid ((hW3 ▸ HR3.out).keep (kp_alloc _ _))
                  have HB4 : Hid (Blk (W3.alloc (.cells #[.int .i64 K, .string SX, .int .i64 NM, .int .i64 AT] 111)) w2.heap.size 111 (tcell (K, TX, NM, AT)).toArray) := Lib.hid (by
                    rw [hz3]
                    have e : (tcell (K, TX, NM, AT)).toArray = #[.int .i64 K, .string SX, .int .i64 NM, .int .i64 AT] := by rw [HSX.out]; rfl
                    rw [e]; exact Blk.new _ _ _)
                  have HTE : Hid (ts.length ≤ 100000) := Lib.hid (by have := HTL.out; have := HSL.out; have := HKN.out; omega)
                  rw [hW3] at HR4 HB4
                  clear hz3 hW3 HR3
                  go_wp2_with (at_builtin; refine wpList_tok (w := w1) rfl (.tmp 71) (.tmp 73) rfl _ ts rfl HR4.out (K, TX, NM, AT) w2.heap.size rfl HB4.out HTE.out ?_)
                  intro v5 w5 hrow5
                  have HR5 := Lib.hid hrow5
                  have HL5 : Hid ((ts ++ [(K, TX, NM, AT)]).length ≤ NX) := Lib.hid (by have := HTL.out; have := HNX.out; simp; omega)
                  clear hrow5
                  go_wp2_with fail
                  go_roundw
                  case rel => exact ⟨rfl, NX, _, rfl, HNX.out.2, HL5.out, HR5.out, HEQ2.out⟩
                  case measure => have := HNX.out; simp [intOf]; omega
                · have FIN : Hid (∀ w', Kp wx w' → R (.returned (.tuple #[.slice none 0 0, .int .i64 (k : Nat), .int .i64 (E : Nat)])) w') := Lib.hid (fun w' hk => by
                    rw [HR.out]
                    refine TokensR.none ?_ (Kp.trans HK1.out (Kp.trans HROW.out.kp hk))
                    rw [HEQ.out, lex_err HKN.out HNB.out.1 HNB.out.2 (by have e := congrArg (fun r => r.2.2) HTOK.out.symm; simp only at e; rw [e]; exact hE), ← HTOK.out]
                    exact ahead_err ts hE)
                  have hq1 : ((E : Int) == 0) = false := beq_eq_false_iff_ne.2 (by omega)
                  have hq2 : ((E : Int) != 0) = true := by rw [bne_iff_ne]; omega
                  clear hE
                  go_wp2_with fail
                  (rw [Exit.noGoto_ret]; go_ret3)
                  exact FIN.out _ (kp_four HKW.out _ _ _ _)
              · skip
                by_cases hsg : sgn (at' l k) = true
                · have hkd : kd (at' l k) = 6 := by unfold kd; rw [if_neg (by rw [hb]; decide), if_neg h35, if_neg hlet, if_neg hdig, if_neg h34, if_pos hsg]
                  rw [hkd] at hlk
                  have hcall : Calls Tryz.prog 87 #[.string S, .int .i64 (k : Nat)] (wx.alloc (.cells #[.int .i64 0, .string ⟨#[]⟩, .int .i64 0, .int .i64 0] 111)) (TokA (tok l k) (wx.alloc (.cells #[.int .i64 0, .string ⟨#[]⟩, .int .i64 0, .int .i64 0] 111))) := by
                    rw [HS.out]; exact signAt_any HL.out HSL.out HKN.out hsg _
                  have HCALL := Lib.hid hcall
                  rw [← HC.out] at hx hlk
                  clear hcall hkd hc
                  go_wp2_with fail
                  refine HCALL.out.mono ?_
                  rintro e w2 ⟨rfl, hk2⟩
                  obtain ⟨⟨⟨K, TX, NM, AT⟩, NX, E⟩, htok⟩ : ∃ r, r = tok l k := ⟨_, rfl⟩
                  rw [← htok]
                  unfold tokR tokV
                  simp only
                  have HTOK := Lib.hid htok
                  have hB := HBZ.out.keep hk2
                  have HKW : Hid (Kp wx w2) := Kp.trans HKZ.out hk2
                  have c0 := hB.cell 0 rfl; have c1 := hB.cell 1 rfl; have c2 := hB.cell 2 rfl; have c3 := hB.cell 3 rfl
                  have f0 := hB.free 0; have f1 := hB.free 1; have f2 := hB.free 2; have f3 := hB.free 3
                  obtain ⟨SX, hSX⟩ : ∃ SX, SX = st TX := ⟨_, rfl⟩
                  rw [← hSX]
                  have HSX := Lib.hid hSX
                  have HNB : Hid (LexN.blank (at' l k) = false ∧ at' l k ≠ 35) := Lib.hid ⟨by first | exact hb | simpa using hb, h35⟩
                  clear hB hk2 htok hSX
                  by_cases hE : E = 0
                  · subst hE
                    have HNX : Hid (k < NX ∧ NX ≤ n) := Lib.hid (by
                      have h := tok_next HKN.out (congrArg (fun r => r.2.2) HTOK.out.symm)
                      rw [← HTOK.out] at h
                      have := HN.out
                      simp only at h
                      omega)
                    have HEQ2 : Hid (lex l 0 = aheadL (ts ++ [(K, TX, NM, AT)]) (lex l NX)) := Lib.hid (by
                      rw [HEQ.out, lex_tok HKN.out HNB.out.1 HNB.out.2 (congrArg (fun r => r.2.2) HTOK.out.symm), ← HTOK.out]
                      exact ahead_tok)
                    have HR3 := Lib.hid (HROW.out.keep (kp_four HKW.out (.int .i64 K) (.string SX) (.int .i64 NM) (.int .i64 AT)))
                    obtain ⟨W3, hW3⟩ : ∃ W3, W3 = ((((w2.setCell ⟨wx.heap.size, 0, none⟩ (.int .i64 K)).setCell ⟨wx.heap.size, 1, none⟩ (.string SX)).setCell ⟨wx.heap.size, 2, none⟩ (.int .i64 NM)).setCell ⟨wx.heap.size, 3, none⟩ (.int .i64 AT)) := ⟨_, rfl⟩
                    have hz3 : w2.heap.size = W3.heap.size := by rw [hW3]; simp
                    have HR4 : Hid (TRow w1 (W3.alloc (.cells #[.int .i64 K, .string SX, .int .i64 NM, .int .i64 AT] 111)) (.slice ao tn cap) ts) := Lib.hid ((hW3 ▸ HR3.out).keep (kp_alloc _ _))
                    have HB4 : Hid (Blk (W3.alloc (.cells #[.int .i64 K, .string SX, .int .i64 NM, .int .i64 AT] 111)) w2.heap.size 111 (tcell (K, TX, NM, AT)).toArray) := Lib.hid (by
                      rw [hz3]
                      have e : (tcell (K, TX, NM, AT)).toArray = #[.int .i64 K, .string SX, .int .i64 NM, .int .i64 AT] := by rw [HSX.out]; rfl
                      rw [e]; exact Blk.new _ _ _)
                    have HTE : Hid (ts.length ≤ 100000) := Lib.hid (by have := HTL.out; have := HSL.out; have := HKN.out; omega)
                    rw [hW3] at HR4 HB4
                    clear hz3 hW3 HR3
                    go_wp2_with (at_builtin; refine wpList_tok (w := w1) rfl (.tmp 71) (.tmp 73) rfl _ ts rfl HR4.out (K, TX, NM, AT) w2.heap.size rfl HB4.out HTE.out ?_)
                    intro v5 w5 hrow5
                    have HR5 := Lib.hid hrow5
                    have HL5 : Hid ((ts ++ [(K, TX, NM, AT)]).length ≤ NX) := Lib.hid (by have := HTL.out; have := HNX.out; simp; omega)
                    clear hrow5
                    go_wp2_with fail
                    go_roundw
                    case rel => exact ⟨rfl, NX, _, rfl, HNX.out.2, HL5.out, HR5.out, HEQ2.out⟩
                    case measure => have := HNX.out; simp [intOf]; omega
                  · have FIN : Hid (∀ w', Kp wx w' → R (.returned (.tuple #[.slice none 0 0, .int .i64 (k : Nat), .int .i64 (E : Nat)])) w') := Lib.hid (fun w' hk => by
                      rw [HR.out]
                      refine TokensR.none ?_ (Kp.trans HK1.out (Kp.trans HROW.out.kp hk))
                      rw [HEQ.out, lex_err HKN.out HNB.out.1 HNB.out.2 (by have e := congrArg (fun r => r.2.2) HTOK.out.symm; simp only at e; rw [e]; exact hE), ← HTOK.out]
                      exact ahead_err ts hE)
                    have hq1 : ((E : Int) == 0) = false := beq_eq_false_iff_ne.2 (by omega)
                    have hq2 : ((E : Int) != 0) = true := by rw [bne_iff_ne]; omega
                    clear hE
                    go_wp2_with fail
                    (rw [Exit.noGoto_ret]; go_ret3)
                    exact FIN.out _ (kp_four HKW.out _ _ _ _)
                · skip
                  have hkd : kd (at' l k) = 0 := by unfold kd; rw [if_neg (by rw [hb]; decide), if_neg h35, if_neg hlet, if_neg hdig, if_neg h34, if_neg hsg]
                  have FIN : Hid (R (.returned (.tuple #[.slice none 0 0, .int .i64 (k : Nat), .int .i64 9])) (wx.alloc (.cells #[.int .i64 0, .string ⟨#[]⟩, .int .i64 0, .int .i64 0] 111))) := Lib.hid (by
                    rw [HR.out]
                    refine TokensR.none ?_ (Kp.trans HK1.out (Kp.trans HROW.out.kp HKZ.out))
                    have ht := tok_none (l := l) (i := k) (by simpa using hlet) (by simpa using hdig) h34 (by simpa using hsg)
                    rw [HEQ.out, lex_err HKN.out hb h35 (by rw [ht]; decide), ht]
                    exact ahead_err ts (by decide))
                  rw [hkd] at hlk
                  rw [← HC.out] at hx hlk
                  clear hkd hlet hdig h34 hsg hb h35 hc
                  go_wp2_with fail
                  (rw [Exit.noGoto_ret]; go_ret3)
                  exact FIN.out
    · have HRE : Hid (TRow w1 (wx.alloc (.cells #[.int .i64 5, .string ⟨#[]⟩, .int .i64 0, .int .i64 n] 111)) (.slice ao tn cap) ts) := Lib.hid (HROW.out.keep (kp_alloc _ _))
      have HBE : Hid (Blk (wx.alloc (.cells #[.int .i64 5, .string ⟨#[]⟩, .int .i64 0, .int .i64 n] 111)) wx.heap.size 111 (tcell (5, [], 0, n)).toArray) := Lib.hid (Blk.new _ _ _)
      have HTE : Hid (ts.length ≤ 100000) := Lib.hid (by have := HTL.out; have := HSL.out; have := HN.out; omega)
      have FIN : Hid (∀ v w', TRow w1 w' v (ts ++ [(5, [], 0, n)]) → R (.returned (.tuple #[v, .int .i64 0, .int .i64 0])) w') := Lib.hid (fun v w' h => by
        rw [HR.out]
        have e : lex l 0 = (ts ++ [(5, [], 0, n)], 0, 0) := by
          rw [HEQ.out, lex_end (by have := HN.out; omega), ahead_end, HN.out]
        rw [e]
        exact ⟨v, w1, rfl, h, HK1.out⟩)
      go_wp2_with (at_builtin; refine wpList_tok (w := w1) rfl (.tmp 75) (.tmp 79) rfl _ ts rfl HRE.out (5, [], 0, n) wx.heap.size rfl HBE.out HTE.out ?_)
      intro v5 w5 hrow5
      have HF := Lib.hid (FIN.out v5 w5 hrow5)
      clear hrow5
      go_wp2_with fail
      (rw [Exit.noGoto_ret]; go_ret3)
      exact HF.out
theorem Tokens_any {l : List Nat} (hl : Lt l) (w : World) : Calls Tryz.prog 48 #[.string (st l)] w (TokensR (toks l) w) := by
  by_cases h : l.length ≤ 16384
  · exact Tokens_ok hl h w
  · exact Tokens_long (by omega) w
end By
end Go.Proofs.YtmflgfojicaecaaGreatDoor

