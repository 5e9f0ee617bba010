/- The reference's Tokens. Condition: none beyond a string's length. -/
import Derived.Test.YtifhbbjalodplaaDoorLRTok
namespace Go.Proofs.YtifhbbjalodplaaDoor
namespace By
open Go.RowKit WireN LexN
set_option linter.unusedVariables false
set_option linter.unusedSimpArgs false

set_option maxRecDepth 100000 in
set_option maxHeartbeats 400000 in
theorem rTokens_long {l : List Nat} (hlen : 16384 < l.length) (w : World) : Calls Tryd.prog 21 #[.string (st l)] w (TokensR (toks l) w) := by
  have FIN : Hid (TokensR (toks l) w (.returned (.tuple #[.slice none 0 0, .int .i64 0, .int .i64 2])) w) := Lib.hid (TokensR.none (by unfold toks; rw [if_pos hlen]) (Kp.refl w))
  obtain ⟨R, hR⟩ : ∃ R, R = TokensR (toks l) w := ⟨_, rfl⟩
  rw [← hR] at FIN ⊢
  obtain ⟨n, hn⟩ : ∃ n, n = l.length := ⟨_, rfl⟩
  have qs : ∀ w, (Builtin.len_ #[9] 3 #[.string (st l)]).run Tryd.prog w = .ok (goInt n) w := fun w => by rw [hn]; exact len w
  obtain ⟨S, hS⟩ : ∃ S, S = st l := ⟨_, rfl⟩
  rw [← hS] at qs ⊢
  have hb : (16384 : Int) < (n : Int) := by omega
  clear hR hn hS hlen
  go_enter Tryd.func21, Tryd.ntmps21
  go_wp2_with fail
  go_ret3
  exact FIN.out

set_option maxRecDepth 100000 in
set_option maxHeartbeats 4000000 in
theorem rTokens_ok {l : List Nat} (hl : Lt l) (hlen : l.length ≤ 16384) (w : World) : Calls Tryd.prog 21 #[.string (st l)] w (TokensR (toks l) w) := by
  have htk : toks l = lex l 0 := by unfold toks; rw [if_neg (by omega)]
  rw [htk]
  obtain ⟨R, hR⟩ : ∃ R, R = TokensR (lex l 0) w := ⟨_, rfl⟩
  have HR := Lib.hid hR
  obtain ⟨n, hn⟩ : ∃ n, n = l.length := ⟨_, rfl⟩
  have HN := Lib.hid hn
  have qs : ∀ w, (Builtin.len_ #[9] 3 #[.string (st l)]).run Tryd.prog w = .ok (goInt n) w := fun w => by rw [hn]; exact len w
  have HSL : Hid (l.length ≤ 16384) := Lib.hid hlen
  have hnb : (n : Int) ≤ 16384 := by omega
  have HSK : Hid (∀ i, i ≤ n → ∀ w, Calls Tryd.prog 37 #[.string (st l), .int .i64 (i : Nat)] w (SkipR l i w)) := Lib.hid (fun i hi w => skip_any hl hlen (by omega) w)
  have HTO : Hid (∀ i, i < n → ∀ w, Calls Tryd.prog 38 #[.string (st l), .int .i64 (i : Nat)] w (TokA (tok l i) w)) := Lib.hid (fun i hi w => rtoken_any hl hlen (by omega) w)
  obtain ⟨S, hS⟩ : ∃ S, S = st l := ⟨_, rfl⟩
  rw [← hS] at qs HSK HTO
  rw [← hR, ← hS]
  clear hR hn hS hlen hl htk
  go_enter Tryd.func21, Tryd.ntmps21
  go_wp2_with fail
  refine (HSK.out 0 (Nat.zero_le _) _).mono ?_
  rintro e w' ⟨q, rfl, hq0, hqn, hlx, hnx, rfl⟩
  have HLX := Lib.hid hlx; have HNX0 := Lib.hid hnx; have HQN : Hid (q ≤ n) := Lib.hid (by have := HN.out; omega)
  clear hlx hnx hqn hq0
  go_wp2_with fail
  go_loopw [2, 3] (fun v p wr => ∃ (k : Nat) (ts : List Tok), p = .int .i64 k ∧ k ≤ n ∧ ts.length ≤ k ∧ TRow w wr v ts ∧ lex l 0 = aheadL ts (lex l k) ∧ (k < l.length → LexN.blank (at' l k) = false ∧ at' l k ≠ 35)) (fun _ p _ => n - (intOf p).toNat)
  case atStart => exact ⟨q, [], rfl, HQN.out, by simp, TRow.start w, by rw [HLX.out]; exact (aheadL_nil _).symm, HNX0.out⟩
  case round =>
    obtain ⟨k, ts, rfl, hk, htl, hrow, heq, hnb2⟩ := hrel
    rename World => wx
    have HTL := Lib.hid htl; have HROW := Lib.hid hrow; have HEQ := Lib.hid heq; have HNB2 := Lib.hid hnb2
    obtain ⟨ao, cap, hv, -⟩ := hrow.form
    subst hv
    obtain ⟨tn, htn⟩ : ∃ tn, tn = ts.length := ⟨_, rfl⟩
    rw [← htn] at HROW ⊢
    clear htl hrow heq htn hnb2
    by_cases hkn : k < n
    · have HKN : Hid (k < l.length) := Lib.hid (by have := HN.out; omega)
      have HNB := Lib.hid (HNB2.out HKN.out)
      go_wp2_with fail
      refine (HTO.out k hkn _).mono ?_
      rintro e w2 ⟨rfl, hk2⟩
      obtain ⟨⟨⟨K, TX, NM, AT⟩, NX, E⟩, htok⟩ : ∃ r, r = tok l k := ⟨_, rfl⟩
      rw [← htok]
      unfold tokR tokV
      simp only
      have HTOK := Lib.hid htok
      obtain ⟨SX, hSX⟩ : ∃ SX, SX = st TX := ⟨_, rfl⟩
      rw [← hSX]
      have HSX := Lib.hid hSX
      have HK2 := Lib.hid hk2
      clear hk2 htok hSX
      by_cases hE : E = 0
      · subst hE
        have HNX : Hid (k < NX ∧ NX ≤ n) := Lib.hid (by
          have h := tok_next HKN.out (congrArg (fun r => r.2.2) HTOK.out.symm)
          rw [← HTOK.out] at h
          have := HN.out
          simp only at h
          omega)
        have HEQ2 : Hid (lex l 0 = aheadL (ts ++ [(K, TX, NM, AT)]) (lex l NX)) := Lib.hid (by
          rw [HEQ.out, lex_tok HKN.out HNB.out.1 HNB.out.2 (congrArg (fun r => r.2.2) HTOK.out.symm), ← HTOK.out]
          exact aheadL_aheadL _ _ _)
        obtain ⟨W3, hW3⟩ : ∃ W3, W3 = w2.alloc (.cells #[.int .i64 K, .string SX, .int .i64 NM, .int .i64 AT] 42) := ⟨_, rfl⟩
        have hz3 : w2.heap.size + 1 = W3.heap.size := by rw [hW3]; simp
        have HR4 : Hid (TRow w (W3.alloc (.cells #[.int .i64 K, .string SX, .int .i64 NM, .int .i64 AT] 42)) (.slice ao tn cap) ts) := Lib.hid ((HROW.out.keep (Kp.trans HK2.out (hW3 ▸ kp_alloc w2 _))).keep (kp_alloc _ _))
        have HB4 : Hid (Blk (W3.alloc (.cells #[.int .i64 K, .string SX, .int .i64 NM, .int .i64 AT] 42)) (w2.heap.size + 1) 42 (tcell (K, TX, NM, AT)).toArray) := Lib.hid (by
          rw [hz3]
          have e : (tcell (K, TX, NM, AT)).toArray = #[.int .i64 K, .string SX, .int .i64 NM, .int .i64 AT] := by rw [HSX.out]; rfl
          rw [e]; exact Blk.new _ _ _)
        have HTE : Hid (ts.length ≤ 100000) := Lib.hid (by have := HTL.out; have := HSL.out; have := HKN.out; omega)
        rw [hW3] at HR4 HB4
        clear hz3 hW3
        go_wp2_with (at_builtin; refine wpList_tok (w := w) rfl (.tmp 28) (.tmp 30) rfl _ ts rfl HR4.out (K, TX, NM, AT) (w2.heap.size + 1) rfl HB4.out HTE.out ?_)
        intro v5 w5 hrow5
        have HR5 := Lib.hid hrow5
        have HL5 : Hid ((ts ++ [(K, TX, NM, AT)]).length ≤ NX) := Lib.hid (by have := HTL.out; have := HNX.out; simp; omega)
        clear hrow5
        go_wp2_with fail
        refine (HSK.out NX HNX.out.2 _).mono ?_
        rintro e w' ⟨q2, rfl, hq0, hqn, hlx, hnx, rfl⟩
        have HQ2 : Hid (NX ≤ q2 ∧ q2 ≤ n) := Lib.hid (by have := HN.out; omega)
        have HEQ3 : Hid (lex l 0 = aheadL (ts ++ [(K, TX, NM, AT)]) (lex l q2)) := Lib.hid (by rw [hlx]; exact HEQ2.out)
        have HNX3 := Lib.hid hnx
        clear hq0 hqn hlx hnx
        go_wp2_with fail
        go_roundw
        case rel => exact ⟨q2, _, rfl, HQ2.out.2, by have := HL5.out; have := HQ2.out; omega, HR5.out, HEQ3.out, HNX3.out⟩
        case measure => have := HNX.out; have := HQ2.out; simp [intOf]; omega
      · have FIN : Hid (∀ w', Kp wx w' → R (.returned (.tuple #[.slice none 0 0, .int .i64 (k : Nat), .int .i64 (E : Nat)])) w') := Lib.hid (fun w' hk => by
          rw [HR.out]
          refine TokensR.none ?_ (Kp.trans HROW.out.kp hk)
          rw [HEQ.out, lex_err HKN.out HNB.out.1 HNB.out.2 (by have e := congrArg (fun r => r.2.2) HTOK.out.symm; simp only at e; rw [e]; exact hE), ← HTOK.out]
          exact ahead_err ts hE)
        have HKE := Lib.hid (Kp.trans HK2.out (kp_alloc w2 (.cells #[.int .i64 K, .string SX, .int .i64 NM, .int .i64 AT] 42)))
        have hq1 : ((E : Int) == 0) = false := beq_eq_false_iff_ne.2 (by omega)
        have hq2 : ((E : Int) != 0) = true := by rw [bne_iff_ne]; omega
        clear hE
        go_wp2_with fail
        go_ret3
        exact FIN.out _ HKE.out
    · have HRE : Hid (TRow w (wx.alloc (.cells #[.int .i64 5, .string ⟨#[]⟩, .int .i64 0, .int .i64 n] 42)) (.slice ao tn cap) ts) := Lib.hid (HROW.out.keep (kp_alloc _ _))
      have HBE : Hid (Blk (wx.alloc (.cells #[.int .i64 5, .string ⟨#[]⟩, .int .i64 0, .int .i64 n] 42)) wx.heap.size 42 (tcell (5, [], 0, n)).toArray) := Lib.hid (Blk.new _ _ _)
      have HTE : Hid (ts.length ≤ 100000) := Lib.hid (by have := HTL.out; have := HSL.out; have := HN.out; omega)
      have FIN : Hid (∀ v w', TRow w w' v (ts ++ [(5, [], 0, n)]) → R (.returned (.tuple #[v, .int .i64 0, .int .i64 0])) w') := Lib.hid (fun v w' h => by
        rw [HR.out]
        have e : lex l 0 = (ts ++ [(5, [], 0, n)], 0, 0) := by
          rw [HEQ.out, lex_end (by have := HN.out; omega), ahead_end, HN.out]
        rw [e]
        exact ⟨v, w, rfl, h, Kp.refl _⟩)
      go_wp2_with (at_builtin; refine wpList_tok (w := w) rfl (.tmp 35) (.tmp 39) rfl _ ts rfl HRE.out (5, [], 0, n) wx.heap.size rfl HBE.out HTE.out ?_)
      intro v5 w5 hrow5
      have HF := Lib.hid (FIN.out v5 w5 hrow5)
      clear hrow5
      go_wp2_with fail
      go_ret3
      exact HF.out
theorem rTokens_any {l : List Nat} (hl : Lt l) (w : World) : Calls Tryd.prog 21 #[.string (st l)] w (TokensR (toks l) w) := by
  by_cases h : l.length ≤ 16384
  · exact rTokens_ok hl h w
  · exact rTokens_long (by omega) w
end By
end Go.Proofs.YtifhbbjalodplaaDoor
