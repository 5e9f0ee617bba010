/- The program's numberAt. Conditions: the place lies in the string, which has at most 16384 bytes. -/
import Derived.Test.YtifhbbjalodplaaDoorLAtB
namespace Go.Proofs.YtifhbbjalodplaaDoor
namespace By
open Go.RowKit WireN LexN
set_option linter.unusedVariables false
set_option linter.unusedSimpArgs false

theorem sl_cell' {w : World} {ao : Option Addr} {len cap : Nat} {xs : List Nat} (h : Sl w (.slice ao len cap) xs) (hx : 0 < len) :
    ∃ b off, ao = some ⟨b, off, none⟩ ∧ ∀ i : Nat, i < len → w.cell? ⟨b, off + i, none⟩ = some (.int .u8 (at' xs i : Nat)) := by
  obtain ⟨⟨ao', cap', e, h2, h3, h4, h5⟩, hl, hs⟩ := h
  simp only [Value.slice.injEq] at e
  obtain ⟨rfl, rfl, rfl⟩ := e
  exact h4.cells hx
theorem tok_digit {l : List Nat} {i : Nat} (h : digit (at' l i) = true) : tok l i = if 9007199254740992 < digits (sub l i (spn digit l i)) then (Tok.zero, 0, 3) else ((2, [], digits (sub l i (spn digit l i)), i), spn digit l i, 0) := by
  have hl : letter (at' l i) = false := by
    simp only [digit, Bool.and_eq_true, decide_eq_true_eq] at h
    simp [letter]; omega
  unfold tok
  rw [if_neg (by simp [hl]), if_pos h]
theorem digits_step {ds : List Nat} {k : Nat} (h : k < ds.length) : digits (ds.take (k + 1)) = 10 * digits (ds.take k) + (at' ds k - 48) := by
  rw [List.take_succ_eq_append_getElem h, digits_snoc]
  simp [at', h]
theorem digits_take (ds : List Nat) (k : Nat) : digits (ds.take k) ≤ digits ds := by
  have := digits_mono (ds.take k) (ds.drop k)
  rwa [List.take_append_drop] at this

set_option maxRecDepth 100000 in
set_option maxHeartbeats 2000000 in
theorem numberAt_any {l : List Nat} (hl : Lt l) (hlen : l.length ≤ 16384) {i : Nat} (hi : i < l.length) (hQ : digit (at' l i) = true) (w : World) :
    Calls Tryd.prog 34 #[.string (st l), .int .i64 (i : Nat)] w (TokA (tok l i) w) := by
  have hge := spn_ge digit l i
  have hle := spn_le digit (l := l) (i := i) (by omega)
  have ht0 := tok_digit hQ
  have hall := spn_all digit l (spn digit l i - i) i (by omega)
  obtain ⟨n, hn⟩ : ∃ n, n = spn digit l i := ⟨_, rfl⟩
  obtain ⟨R, hR⟩ : ∃ R, R = TokA (tok l i) w := ⟨_, rfl⟩
  rw [← hn] at hge hle ht0 hall
  have hsp : ∀ w, Calls Tryd.prog 31 #[.string (st l), .int .i64 (i : Nat), .func (.func 39) #[] #[]] w fun e w' => e = .returned (.int .i64 (n : Nat)) ∧ w = w' := fun w => by
    rw [hn]; exact span_any hl (by omega) fitsDigit (by omega) w
  have HSP := Lib.hid hsp
  have hcut : ∀ w, (Instr.slice 9 (.string (st l)) (some (.int .i64 (i : Int))) (some (.int .i64 (n : Int))) none).run Tryd.prog w = .ok (.string (st (sub l i n))) w := fun w => cut hge hle w
  have hdl := sub_len (l := l) (i := i) (j := n) hle
  have hda : ∀ k, k < n - i → digit (at' (sub l i n) k) = true := fun k hk => by rw [sub_at hle hk]; exact hall _ (by omega) (by omega)
  have hdt : Lt (sub l i n) := fun k => by
    by_cases hk : k < n - i
    · show at' (sub l i n) k < 256
      rw [sub_at hle hk]; exact hl _
    · rw [List.getElem?_eq_none (by omega)]; decide
  obtain ⟨ds, hds⟩ : ∃ ds, ds = sub l i n := ⟨_, rfl⟩
  rw [← hds] at hcut hdl hda hdt ht0
  have hm : n - i ≤ 16384 := by omega
  obtain ⟨m, hme⟩ : ∃ m, m = n - i := ⟨_, rfl⟩
  rw [← hme] at hdl hda hm
  have HDL := Lib.hid hdl; have HDA := Lib.hid hda
  have hB0 := Blk.new w 42 #[.int .i64 0, .string ⟨#[]⟩, .int .i64 0, .int .i64 0]
  have hK0 := kp_alloc w (.cells #[.int .i64 0, .string ⟨#[]⟩, .int .i64 0, .int .i64 0] 42)
  obtain ⟨S, hS⟩ : ∃ S, S = st l := ⟨_, rfl⟩
  obtain ⟨S2, hS2⟩ : ∃ S2, S2 = st ds := ⟨_, rfl⟩
  have hz2 : S2.size = m := by rw [hS2, st_size, hdl]
  have hsl := fun w => sl_bytesWorld w S2 (by omega)
  have hqc : ∀ w, (convert 9 43 (.string S2)).run Tryd.prog w = .ok (.slice (some ⟨w.heap.size, 0, none⟩) m (grownCap w m 0 5)) (Lib.bytesWorld w 5 S2) := fun w => by
    rw [Lib.run_convert_string_bytes w 9 43 5 S2 Tryd.underlying9 Tryd.underlying43 Tryd.underlying5, hz2]
  have hbs : bs S2 = ds := by rw [hS2]; exact bs_st hdt
  rw [hbs, hz2] at hsl
  have FINE : Hid (∀ (w' : World) (k : Nat), Kp w w' → 9007199254740992 < digits (ds.take k) → R (.returned (.tuple #[.agg #[.int .i64 0, .string ⟨#[]⟩, .int .i64 0, .int .i64 0], .int .i64 0, .int .i64 3])) w') := Lib.hid (fun w' k hk hb => by
    rw [hR]
    refine ⟨?_, hk⟩
    have := digits_take ds k
    rw [ht0, if_pos (by omega)]; rfl)
  have FIN : Hid (∀ (w' : World) (v : Nat), Kp w w' → v = digits ds → v ≤ 9007199254740992 → R (.returned (.tuple #[.agg #[.int .i64 2, .string ⟨#[]⟩, .int .i64 (v : Nat), .int .i64 (i : Nat)], .int .i64 (n : Nat), .int .i64 0])) w') := Lib.hid (fun w' v hk hv hb => by
    rw [hR]
    refine ⟨?_, hk⟩
    rw [ht0, ← hv, if_neg (by omega)]; rfl)
  rw [← hS2] at hcut
  rw [← hS] at HSP hcut
  rw [← hR, ← hS]
  have HKW : ∀ w1, Kp (w.alloc (.cells #[.int .i64 0, .string ⟨#[]⟩, .int .i64 0, .int .i64 0] 42)) w1 → Kp w w1 ∧ Blk w1 w.heap.size 42 #[.int .i64 0, .string ⟨#[]⟩, .int .i64 0, .int .i64 0] := fun w1 hk => ⟨Kp.trans hK0 hk, hB0.keep hk⟩
  have HKW' := Lib.hid HKW
  have HSL := Lib.hid hsl
  have hz1 : (w.alloc (.cells #[.int .i64 0, .string ⟨#[]⟩, .int .i64 0, .int .i64 0] 42)).heap.size = w.heap.size + 1 := by simp
  have hi' : (i : Int) ≤ 16384 := by omega
  have hn' : (n : Int) ≤ 16384 := by omega
  clear HKW hsl hR hn hS hl hds hS2 ht0 hQ hB0 hK0 hz2 hbs hda hdl hall hsp hdt hz1 hme
  go_enter Tryd.func34, Tryd.ntmps34
  go_wp2_with fail
  refine (HSP.out _).mono ?_
  rintro e w' ⟨rfl, rfl⟩
  go_wp2_with fail
  have hs1 := HSL.out (w.alloc (.cells #[.int .i64 0, .string ⟨#[]⟩, .int .i64 0, .int .i64 0] 42))
  have hkb := HKW'.out _ (kp_bytesWorld (w.alloc (.cells #[.int .i64 0, .string ⟨#[]⟩, .int .i64 0, .int .i64 0] 42)) 5 S2)
  rw [show (w.alloc (.cells #[.int .i64 0, .string ⟨#[]⟩, .int .i64 0, .int .i64 0] 42)).heap.size = w.heap.size + 1 by simp] at hs1
  obtain ⟨W1, hW1⟩ : ∃ W1, W1 = Lib.bytesWorld (w.alloc (.cells #[.int .i64 0, .string ⟨#[]⟩, .int .i64 0, .int .i64 0] 42)) 5 S2 := ⟨_, rfl⟩
  obtain ⟨cap, hcap⟩ : ∃ cap, cap = grownCap (w.alloc (.cells #[.int .i64 0, .string ⟨#[]⟩, .int .i64 0, .int .i64 0] 42)) m 0 5 := ⟨_, rfl⟩
  rw [← hW1, ← hcap] at hs1
  rw [← hW1] at hkb
  rw [← hW1, ← hcap]
  have HS1 := Lib.hid hs1; have HKB := Lib.hid hkb.1
  have hB := hkb.2
  have c0 := hB.cell 0 rfl; have c1 := hB.cell 1 rfl; have c2 := hB.cell 2 rfl; have c3 := hB.cell 3 rfl
  have f0 := hB.free 0; have f1 := hB.free 1; have f2 := hB.free 2; have f3 := hB.free 3
  clear hs1 hkb hW1 hcap hcut hqc hB
  go_loop [5, 7, 19] (fun r v q => r = .int .i64 (n : Nat) ∧ ∃ k : Nat, q = .int .i64 k ∧ k ≤ m ∧ v = .int .i64 (digits (ds.take k) : Nat) ∧ digits (ds.take k) ≤ 9007199254740992) (fun _ _ q => m - (intOf q).toNat)
  case atStart => exact ⟨rfl, 0, rfl, Nat.zero_le _, rfl, by simp [digits]⟩
  case round =>
    obtain ⟨rfl, k, rfl, hk, rfl, hv⟩ := hrel
    obtain ⟨V, hV⟩ : ∃ V, V = digits (ds.take k) := ⟨_, rfl⟩
    rw [← hV] at hv ⊢
    have HV := Lib.hid hV
    have hVi : (V : Int) ≤ 9007199254740992 := by omega
    clear hV hv
    by_cases hkm : k < m
    · obtain ⟨b, off, e, hcell⟩ := sl_cell' HS1.out (by omega)
      injection e with e
      injection e with e1 e2
      subst e1 e2
      have hc1 := hcell k hkm
      rw [Nat.zero_add] at hc1
      have hdg := HDA.out k hkm
      have HST : Hid (digits (ds.take (k + 1)) = 10 * V + (at' ds k - 48)) := Lib.hid (by rw [HV.out]; exact digits_step (by have := HDL.out; omega))
      obtain ⟨c, hc⟩ : ∃ c, c = at' ds k := ⟨_, rfl⟩
      rw [← hc] at hc1 hdg HST
      have hcb : 48 ≤ c ∧ c ≤ 57 := by simpa [digit] using hdg
      have hci : (48 : Int) ≤ (c : Int) := by omega
      have hci2 : (c : Int) ≤ 57 := by omega
      clear hcell hc hdg
      by_cases hbig : (9007199254740992 : Int) < 10 * (V : Int) + ((c : Int) - 48)
      · have FE : Hid (9007199254740992 < digits (ds.take (k + 1))) := Lib.hid (by rw [HST.out]; omega)
        clear hcb
        go_wp2_with fail
        exact bodyPost_ret (by simp [results, Tryd.results34, go_sem, c0, c1, c2, c3]) rfl (FINE.out _ (k + 1) (kp_four HKB.out _ _ _ _) FE.out)
      · have hsm : 10 * (V : Int) + ((c : Int) - 48) ≤ 9007199254740992 := by omega
        have FB : Hid (digits (ds.take (k + 1)) ≤ 9007199254740992) := Lib.hid (by rw [HST.out]; omega)
        have FV : Hid (10 * (V : Int) + ((c : Int) - 48) = ((digits (ds.take (k + 1)) : Nat) : Int)) := Lib.hid (by rw [HST.out]; omega)
        clear hcb hbig
        go_wp2_with fail
        go_round
        case rel => exact ⟨rfl, k + 1, by go_num, by omega, vint FV.out, FB.out⟩
        case measure => simp [intOf]; omega
    · have FV : Hid (V = digits ds) := Lib.hid (by rw [HV.out, List.take_of_length_le (by have := HDL.out; omega)])
      have FB : Hid (V ≤ 9007199254740992) := Lib.hid (by omega)
      go_wp2_with fail
      exact bodyPost_ret (by simp [results, Tryd.results34, go_sem, c0, c1, c2, c3]) rfl (FIN.out _ V (kp_four HKB.out _ _ _ _) FV.out FB.out)
end By
end Go.Proofs.YtifhbbjalodplaaDoor
