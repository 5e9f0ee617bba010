/- The program's Next: the frame at a place, or the error. Conditions: the slice holds the bytes that are named, 64-bit integers. -/
import Derived.Test.YtlfoikjbbbhbdaaMTk
import Derived.Deep.RegionWith
namespace Go.Proofs.Ytlfoikjbbbhbdaa
namespace By
open Go.RowKit WireN
set_option linter.unusedVariables false
set_option linter.unusedSimpArgs false

/-- How far a frame was read: the first k parts are there. -/
def NS (wy : World) (g : Nat) (ao : Option Addr) (len cap : Nat) (xs : List Nat) (i : Nat) : Nat → Prop
  | 0 => i ≤ len ∧ St wy g ao len cap i i 0 0 (.slice none 0 0)
  | 1 => i < len ∧ xs[i]?.getD 0 = 247 ∧ St wy g ao len cap i (i + 1) 0 0 (.slice none 0 0)
  | 2 => i + 1 < len ∧ xs[i]?.getD 0 = 247 ∧ xs[i + 1]?.getD 0 ≠ 0 ∧ St wy g ao len cap i (i + 2) (xs[i + 1]?.getD 0) 0 (.slice none 0 0)
  | 3 => i + 1 < len ∧ xs[i]?.getD 0 = 247 ∧ xs[i + 1]?.getD 0 ≠ 0 ∧ ∃ n p, rd xs ((i + 2 : Nat) : Int) = (n, p, 0) ∧ n ≤ 2097152 ∧ St wy g ao len cap i p (xs[i + 1]?.getD 0) n (.slice none 0 0)
  | 4 => i + 1 < len ∧ xs[i]?.getD 0 = 247 ∧ xs[i + 1]?.getD 0 ≠ 0 ∧ ∃ n p, rd xs ((i + 2 : Nat) : Int) = (n, p, 0) ∧ n ≤ 2097152 ∧ p + n ≤ len ∧
      ∃ po pc, sliced ao p (p + n) cap 1 = .slice po n pc ∧ St wy g ao len cap i (p + n) (xs[i + 1]?.getD 0) n (.slice po n pc)
  | _ => i + 1 < len ∧ xs[i]?.getD 0 = 247 ∧ xs[i + 1]?.getD 0 ≠ 0 ∧ ∃ n p, rd xs ((i + 2 : Nat) : Int) = (n, p, 0) ∧ n ≤ 2097152 ∧ p + n + 4 ≤ len ∧ (xs.drop (p + n)).take 4 = le4 (ck ((xs.take (p + n)).drop (i + 1))) ∧
      ∃ po pc, sliced ao p (p + n) cap 1 = .slice po n pc ∧ St wy g ao len cap i (p + n + 4) (xs[i + 1]?.getD 0) n (.slice po n pc)
/-- What a reader answers. -/
structure RdR (wy : World) (g : Nat) (ao : Option Addr) (len cap : Nat) (xs : List Nat) (i k : Nat) (e : Ending) (w' : World) : Prop where
  ex : ∃ E : Nat, e = .returned (.int .i64 (E : Nat)) ∧ (E = 0 → NS w' g ao len cap xs i k) ∧ (E ≠ 0 → nx xs i = (0, [], 0, E))
  stp : Stp g wy w'
theorem RdR.no {wy w' : World} {g : Nat} {ao : Option Addr} {len cap : Nat} {xs : List Nat} {i k : Nat} {e : Ending} {E : Nat} {I : Int} (he : e = .returned (.int .i64 I)) (hI : I = (E : Nat)) (hs : Only g wy w') (h0 : E ≠ 0) (h : nx xs i = (0, [], 0, E)) : RdR wy g ao len cap xs i k e w' := by
  subst hI
  exact ⟨⟨E, he, fun h1 => absurd h1 h0, fun _ => h⟩, hs.stp⟩
theorem RdR.yes {wy w' : World} {g : Nat} {ao : Option Addr} {len cap : Nat} {xs : List Nat} {i k : Nat} {e : Ending} (he : e = .returned (.int .i64 0)) (hs : Stp g wy w') (h : NS w' g ao len cap xs i k) : RdR wy g ao len cap xs i k e w' :=
  ⟨⟨0, he, fun _ => h, fun h1 => absurd rfl h1⟩, hs⟩

section
variable {w : World} {g : Nat} {ao : Option Addr} {len cap : Nat} {xs : List Nat} {i : Nat}
theorem step0 (hc : Ctx w g ao len cap xs) (h : NS w g ao len cap xs i 0) : Calls Try.prog 66 #[.pointer (some ⟨g, 0, none⟩)] w (RdR w g ao len cap xs i 1) := by
  obtain ⟨hl, -, -, -⟩ := hc.facts
  obtain ⟨hi, hst⟩ := h
  by_cases h0 : i = len
  · exact (mark_end hst hc h0).mono fun e w' h => RdR.no h.1 rfl h.2 (by decide) (nx_end0 (by omega))
  · by_cases hm : xs[i]?.getD 0 = 247
    · exact (mark_ok hst hc (by omega) hm).mono fun e w' h => RdR.yes h.1 h.2.2.stp ⟨by omega, hm, h.2.1⟩
    · exact (mark_text hst hc (by omega) rfl hm).mono fun e w' h => RdR.no h.1 rfl h.2 (by decide) (nx_mark (by omega) hm)
theorem step1 (hc : Ctx w g ao len cap xs) (h : NS w g ao len cap xs i 1) : Calls Try.prog 67 #[.pointer (some ⟨g, 0, none⟩)] w (RdR w g ao len cap xs i 2) := by
  obtain ⟨hl, -, -, -⟩ := hc.facts
  obtain ⟨hi, hm, hst⟩ := h
  by_cases h0 : i + 1 = len
  · exact (kind_end hst hc h0).mono fun e w' h => RdR.no h.1 rfl h.2 (by decide) (nx_end1 (by omega) hm)
  · by_cases hk : xs[i + 1]?.getD 0 = 0
    · exact (kind_text hst hc (by omega) hk).mono fun e w' h => RdR.no h.1 rfl h.2 (by decide) (nx_kind (by omega) hm hk)
    · exact (kind_ok hst hc (by omega) rfl hk).mono fun e w' h => RdR.yes h.1 h.2.2.stp ⟨by omega, hm, hk, h.2.1⟩
theorem step2 (hc : Ctx w g ao len cap xs) (h : NS w g ao len cap xs i 2) : Calls Try.prog 68 #[.pointer (some ⟨g, 0, none⟩)] w (RdR w g ao len cap xs i 3) := by
  obtain ⟨hl, -, -, -⟩ := hc.facts
  obtain ⟨hi, hm, hk, hst⟩ := h
  obtain ⟨⟨n, p, er⟩, hr⟩ : ∃ r, rd xs ((i + 2 : Nat) : Int) = r := ⟨_, rfl⟩
  by_cases he : er = 0
  · subst he
    by_cases hn : n ≤ 2097152
    · exact (length_ok hst hc (by omega) hr hn).mono fun e w' h => RdR.yes h.1 h.2.2.stp ⟨hi, hm, hk, n, p, hr, hn, h.2.1⟩
    · exact (length_limit hst hc (by omega) hr (by omega)).mono fun e w' h => RdR.no h.1 rfl h.2 (by decide) (nx_limit (by omega) hm hk hr (by omega))
  · exact (length_err hst hc (by omega) hr he).mono fun e w' h => RdR.no h.1 rfl h.2 he (nx_len (by omega) hm hk hr he)
theorem step3 (hc : Ctx w g ao len cap xs) (h : NS w g ao len cap xs i 3) : Calls Try.prog 69 #[.pointer (some ⟨g, 0, none⟩)] w (RdR w g ao len cap xs i 4) := by
  obtain ⟨hl, -, -, -⟩ := hc.facts
  obtain ⟨hi, hm, hk, n, p, hr, hn, hst⟩ := h
  have hp := rd_next xs ((i + 2 : Nat) : Int)
  rw [hr] at hp
  simp only at hp
  by_cases hpn : p + n ≤ len
  · obtain ⟨po, pc, hV, -⟩ := hc.part p n hpn
    exact (payload_ok hst hc hpn hn hV).mono fun e w' h => RdR.yes h.1 h.2.2.stp ⟨hi, hm, hk, n, p, hr, hn, hpn, po, pc, hV, h.2.1⟩
  · exact (payload_end hst hc (by omega) hn (by omega)).mono fun e w' h => RdR.no h.1 rfl h.2 (by decide) (nx_end2 (by omega) hm hk hr hn (by omega))
theorem step4 (hc : Ctx w g ao len cap xs) (h : NS w g ao len cap xs i 4) : Calls Try.prog 70 #[.pointer (some ⟨g, 0, none⟩)] w (RdR w g ao len cap xs i 5) := by
  obtain ⟨hl, -, -, -⟩ := hc.facts
  obtain ⟨hi, hm, hk, n, p, hr, hn, hpn, po, pc, hV, hst⟩ := h
  have hp : i + 2 < p := by
    have h1 : rd xs ((i + 2 : Nat) : Int) = (n, p, 0) := hr
    unfold rd at h1
    split at h1
    · simp at h1
    · split at h1
      · simp at h1
      · split at h1
        · simp at h1; omega
        · simp at h1
  by_cases hp4 : p + n + 4 ≤ len
  · by_cases hs : (xs.drop (p + n)).take 4 = le4 (ck ((xs.take (p + n)).drop (i + 1)))
    · refine (sum_any (E := 0) hst hc (by omega) hp4 (by rw [if_pos hs])).mono fun e w' h => RdR.yes h.1 h.2.2 ⟨hi, hm, hk, n, p, hr, hn, hp4, hs, po, pc, hV, h.2.1⟩
    · refine (sum_any (E := 8) hst hc (by omega) hp4 (by rw [if_neg hs])).mono fun e w' h => ?_
      exact ⟨⟨8, h.1, fun h1 => absurd h1 (by decide), fun _ => nx_sum (by omega) hm hk hr hn (by omega) hs⟩, h.2.2⟩
  · exact (sum_end hst hc (by omega) (by omega) (by omega)).mono fun e w' h => RdR.no h.1 rfl h.2 (by decide) (nx_end2 (by omega) hm hk hr hn (by omega))
end

/-- A frame's kind and payload, the next place and the error. -/
structure NxR (xs : List Nat) (i : Int) (w : World) (e : Ending) (w' : World) : Prop where
  ex : ∃ vp, e = .returned (.tuple #[.agg #[.int .i64 ((nx xs i).1 : Nat), vp], .int .i64 ((nx xs i).2.2.1 : Nat), .int .i64 ((nx xs i).2.2.2 : Nat)]) ∧ Sl w' vp (nx xs i).2.1 ∧ New w.heap.size vp
  kp : Kp w w'
theorem NxR.no {xs : List Nat} {i : Int} {w w' : World} {e : Ending} {E : Nat} (h : nx xs i = (0, [], 0, E)) (he : e = .returned (.tuple #[.agg #[.int .i64 0, .slice none 0 0], .int .i64 0, .int .i64 (E : Nat)])) (hk : Kp w w') : NxR xs i w e w' := by
  refine ⟨⟨.slice none 0 0, ?_, ?_, New.nil _⟩, hk⟩
  · rw [h, he]; rfl
  · rw [h]; exact Sl.nil _

set_option maxRecDepth 100000 in
set_option maxHeartbeats 2000000 in
theorem Next_range {v : Value} {xs : List Nat} {w : World} (hs : Sl w v xs) (i : Int) (hi : -9223372036854775808 ≤ i ∧ i ≤ 9223372036854775807) (h : i < 0 ∨ (xs.length : Int) < i) :
    Calls Try.prog 61 #[v, .int .i64 i] w (NxR xs i w) := by
  have hnx := nx_range h
  obtain ⟨ao, cap, rfl, hc, hm, hno⟩ := hs.open3
  have HK := Lib.hid (kp_alloc w (.cells #[.int .i64 0, .slice none 0 0] 80))
  have FIN : Hid (∀ e w', e = .returned (.tuple #[.agg #[.int .i64 0, .slice none 0 0], .int .i64 0, .int .i64 3]) → Kp w w' → NxR xs i w e w') := fun e w' he hk => NxR.no hnx he hk
  obtain ⟨R, hR⟩ : ∃ R, R = NxR xs i w := ⟨_, rfl⟩
  rw [← hR] at FIN ⊢
  clear hR hnx hs hno hm hc
  rcases h with h | h
  · go_enter Try.func61, Try.ntmps61
    go_wp2_with fail
    exact bodyPost_ret (by simp [results, Try.results61, go_sem]) rfl (FIN.out _ _ rfl HK.out)
  · have h0 : ¬ i < 0 := by omega
    go_enter Try.func61, Try.ntmps61
    go_wp2_with fail
    exact bodyPost_ret (by simp [results, Try.results61, go_sem]) rfl (FIN.out _ _ rfl HK.out)

theorem NS.keep {wy w' : World} {g : Nat} {ao : Option Addr} {len cap : Nat} {xs : List Nat} {i : Nat} (hk : Kp wy w') : ∀ {k : Nat}, NS wy g ao len cap xs i k → NS w' g ao len cap xs i k
  | 0, h => ⟨h.1, h.2.keep hk⟩
  | 1, h => ⟨h.1, h.2.1, h.2.2.keep hk⟩
  | 2, h => ⟨h.1, h.2.1, h.2.2.1, h.2.2.2.keep hk⟩
  | 3, ⟨h1, h2, h3, n, p, h4, h5, h6⟩ => ⟨h1, h2, h3, n, p, h4, h5, h6.keep hk⟩
  | 4, ⟨h1, h2, h3, n, p, h4, h5, h6, po, pc, h7, h8⟩ => ⟨h1, h2, h3, n, p, h4, h5, h6, po, pc, h7, h8.keep hk⟩
  | k + 5, ⟨h1, h2, h3, n, p, h4, h5, h6, h9, po, pc, h7, h8⟩ => ⟨h1, h2, h3, n, p, h4, h5, h6, h9, po, pc, h7, h8.keep hk⟩
theorem part0 (w : World) : (Instr.index 111 (.agg #[.func (.func 66) #[] #[], .func (.func 67) #[] #[], .func (.func 68) #[] #[], .func (.func 69) #[] #[], .func (.func 70) #[] #[]]) (.int .i64 0)).run Try.prog w = .ok (.agg #[.func (.func 66) #[] #[]]) w := by kernel_rfl
theorem part1 (w : World) : (Instr.index 111 (.agg #[.func (.func 66) #[] #[], .func (.func 67) #[] #[], .func (.func 68) #[] #[], .func (.func 69) #[] #[], .func (.func 70) #[] #[]]) (.int .i64 1)).run Try.prog w = .ok (.agg #[.func (.func 67) #[] #[]]) w := by kernel_rfl
theorem part2 (w : World) : (Instr.index 111 (.agg #[.func (.func 66) #[] #[], .func (.func 67) #[] #[], .func (.func 68) #[] #[], .func (.func 69) #[] #[], .func (.func 70) #[] #[]]) (.int .i64 2)).run Try.prog w = .ok (.agg #[.func (.func 68) #[] #[]]) w := by kernel_rfl
theorem part3 (w : World) : (Instr.index 111 (.agg #[.func (.func 66) #[] #[], .func (.func 67) #[] #[], .func (.func 68) #[] #[], .func (.func 69) #[] #[], .func (.func 70) #[] #[]]) (.int .i64 3)).run Try.prog w = .ok (.agg #[.func (.func 69) #[] #[]]) w := by kernel_rfl
theorem part4 (w : World) : (Instr.index 111 (.agg #[.func (.func 66) #[] #[], .func (.func 67) #[] #[], .func (.func 68) #[] #[], .func (.func 69) #[] #[], .func (.func 70) #[] #[]]) (.int .i64 4)).run Try.prog w = .ok (.agg #[.func (.func 70) #[] #[]]) w := by kernel_rfl
/-- How Next's loop stands after k parts. -/
structure NP (w wy : World) (ao : Option Addr) (len cap : Nat) (xs : List Nat) (i k : Nat) : Prop where
  ns : NS wy (w.heap.size + 1) ao len cap xs i k
  ctx : Ctx wy (w.heap.size + 1) ao len cap xs
  blk : Blk wy w.heap.size 80 #[.int .i64 0, .slice none 0 0]
  kp : Kp w wy
theorem NP.keep {w wy w' : World} {ao : Option Addr} {len cap : Nat} {xs : List Nat} {i k : Nat} (h : NP w wy ao len cap xs i k) (hk : Kp wy w') : NP w w' ao len cap xs i k :=
  ⟨h.ns.keep hk, h.ctx.keep hk, h.blk.keep hk, Kp.trans h.kp hk⟩
theorem NP.step {w wy w' : World} {ao : Option Addr} {len cap : Nat} {xs : List Nat} {i k k' : Nat} (h : NP w wy ao len cap xs i k) (hs : Stp (w.heap.size + 1) wy w') (hn : NS w' (w.heap.size + 1) ao len cap xs i k') : NP w w' ao len cap xs i k' :=
  ⟨hn, h.ctx.stp hs, h.blk.stp hs (by omega), hs.kp h.kp (by omega)⟩
theorem kp_two {w w3 : World} (h : Kp w w3) (u v : Value) : Kp w ((w3.setCell ⟨w.heap.size, 0, none⟩ u).setCell ⟨w.heap.size, 1, none⟩ v) :=
  Only.kp h (((Only.refl _ w3).set 0 u).set 1 v) (Nat.le_refl _)
set_option maxRecDepth 100000 in
set_option maxHeartbeats 4000000 in
theorem Next_in {v : Value} {xs : List Nat} {w : World} (hs : Sl w v xs) (i : Nat) (hi : i ≤ xs.length) :
    Calls Try.prog 61 #[v, .int .i64 (i : Nat)] w (NxR xs i w) := by
  obtain ⟨ao, cap, rfl, hc, hm, hno⟩ := hs.open3
  obtain ⟨len, hlen⟩ : ∃ len, len = xs.length := ⟨_, rfl⟩
  have hlm : len ≤ 140737488355328 := by have := hs.sm; omega
  rw [← hlen] at hs hc hi ⊢
  obtain ⟨R, hR⟩ : ∃ R, R = NxR xs i w := ⟨_, rfl⟩
  have HR := Lib.hid hR
  rw [← hR]
  have hk1 := kp_alloc w (.cells #[.int .i64 0, .slice none 0 0] 80)
  have hB1 := Blk.new w 80 #[.int .i64 0, .slice none 0 0]
  obtain ⟨w1, hw1⟩ : ∃ w1, w1 = w.alloc (.cells #[.int .i64 0, .slice none 0 0] 80) := ⟨_, rfl⟩
  have hz1 : w1.heap.size = w.heap.size + 1 := by rw [hw1]; simp
  have HS := Lib.hid hs; have HKA := Lib.hid hk1; have HBA := Lib.hid hB1; have HL := Lib.hid hlen
  clear hs hno hm hR hk1 hB1 hw1 hz1 hlen
  go_enter Try.func61, Try.ntmps61
  have hNP : ∀ w2, Kp ((w.alloc (.cells #[.int .i64 0, .slice none 0 0] 80)).alloc (.cells #[.slice ao len cap, .int .i64 i, .int .i64 i, .int .i64 0, .int .i64 0, .slice none 0 0] 107)) w2 → NP w w2 ao len cap xs i 0 := by
    intro w2 hk2
    have hb := Blk.new (w.alloc (.cells #[.int .i64 0, .slice none 0 0] 80)) 107 #[.slice ao len cap, .int .i64 i, .int .i64 i, .int .i64 0, .int .i64 0, .slice none 0 0]
    rw [show (w.alloc (.cells #[.int .i64 0, .slice none 0 0] 80)).heap.size = w.heap.size + 1 by simp] at hb
    have hkk := Kp.trans HKA.out (Kp.trans (kp_alloc _ _) hk2)
    exact ⟨⟨hi, ⟨hb.keep hk2⟩⟩, ⟨HS.out.keep hkk, HS.out.off (by omega)⟩, (HBA.out.keep (kp_alloc _ _)).keep hk2, hkk⟩
  have HNP := Lib.hid hNP
  clear hNP
  go_wp2_with fail
  refine (parts_any _).mono ?_
  rintro e w2 ⟨rfl, hk2⟩
  have HN2 := Lib.hid (HNP.out w2 hk2)
  clear hk2
  go_wp2_with fail
  go_loopw [25] (fun c wy => ∃ k : Nat, k ≤ 5 ∧ c = .int .i64 k ∧ NP w wy ao len cap xs i k) (fun c _ => 5 - (intOf c).toNat)
  case atStart => exact ⟨0, by omega, rfl, HN2.out⟩
  case round =>
    obtain ⟨k, hk, rfl, hnp⟩ := hrel
    rename World => wx
    have HN := Lib.hid hnp; clear hnp
    by_cases hk5 : k < 5
    · match k, hk5, HN with
      | 0, _, HN =>
        have hpt := part0
        have hpt' : ∀ w, (Instr.index 111 (.agg #[.func (.func 66) #[] #[], .func (.func 67) #[] #[], .func (.func 68) #[] #[], .func (.func 69) #[] #[], .func (.func 70) #[] #[]]) (.int .i64 ((0 : Nat) : Int))).run Try.prog w = _ := part0
        go_wp2_with fail
        refine (step0 (HN.out.keep (kp_alloc _ _)).ctx (HN.out.keep (kp_alloc _ _)).ns).mono ?_
        rintro e w3 ⟨⟨E, rfl, hok, hbad⟩, hstp⟩
        clear hpt hpt'
        by_cases hE : E = 0
        · subst hE
          have HN3 := Lib.hid ((HN.out.keep (kp_alloc _ _)).step hstp (hok rfl))
          clear hok hbad hstp
          go_wp2_with fail
          go_roundw
          case rel => exact ⟨1, by omega, rfl, HN3.out⟩
          case measure => simp [intOf]
        · have hB3 := (HN.out.keep (kp_alloc _ _)).blk.stp hstp (by omega)
          have hk3 := hstp.kp (HN.out.keep (kp_alloc _ _)).kp (by omega)
          have FIN : Hid (R (.returned (.tuple #[.agg #[.int .i64 0, .slice none 0 0], .int .i64 0, .int .i64 (E : Nat)])) ((w3.setCell ⟨w.heap.size, 0, none⟩ (.int .i64 0)).setCell ⟨w.heap.size, 1, none⟩ (.slice none 0 0))) := by
            show R _ _
            rw [HR.out]
            exact NxR.no (hbad hE) rfl (kp_two hk3 _ _)
          have c0 := hB3.cell 0 rfl; have c1 := hB3.cell 1 rfl; have f0 := hB3.free 0; have f1 := hB3.free 1
          have hne : (((E : Nat) : Int) == 0) = false := beq_eq_false_iff_ne.2 (by omega)
          have hne2 : (((E : Nat) : Int) != 0) = true := by simp [bne, hne]
          clear hok hbad hstp hB3 hk3 hE
          go_wp2_with fail
          exact bodyPost_ret (by simp [results, Try.results61, go_sem, c0, c1]) rfl FIN.out
      | 1, _, HN =>
        have hpt := part1
        have hpt' : ∀ w, (Instr.index 111 (.agg #[.func (.func 66) #[] #[], .func (.func 67) #[] #[], .func (.func 68) #[] #[], .func (.func 69) #[] #[], .func (.func 70) #[] #[]]) (.int .i64 ((1 : Nat) : Int))).run Try.prog w = _ := part1
        go_wp2_with fail
        refine (step1 (HN.out.keep (kp_alloc _ _)).ctx (HN.out.keep (kp_alloc _ _)).ns).mono ?_
        rintro e w3 ⟨⟨E, rfl, hok, hbad⟩, hstp⟩
        clear hpt hpt'
        by_cases hE : E = 0
        · subst hE
          have HN3 := Lib.hid ((HN.out.keep (kp_alloc _ _)).step hstp (hok rfl))
          clear hok hbad hstp
          go_wp2_with fail
          go_roundw
          case rel => exact ⟨2, by omega, rfl, HN3.out⟩
          case measure => simp [intOf]
        · have hB3 := (HN.out.keep (kp_alloc _ _)).blk.stp hstp (by omega)
          have hk3 := hstp.kp (HN.out.keep (kp_alloc _ _)).kp (by omega)
          have FIN : Hid (R (.returned (.tuple #[.agg #[.int .i64 0, .slice none 0 0], .int .i64 0, .int .i64 (E : Nat)])) ((w3.setCell ⟨w.heap.size, 0, none⟩ (.int .i64 0)).setCell ⟨w.heap.size, 1, none⟩ (.slice none 0 0))) := by
            show R _ _
            rw [HR.out]
            exact NxR.no (hbad hE) rfl (kp_two hk3 _ _)
          have c0 := hB3.cell 0 rfl; have c1 := hB3.cell 1 rfl; have f0 := hB3.free 0; have f1 := hB3.free 1
          have hne : (((E : Nat) : Int) == 0) = false := beq_eq_false_iff_ne.2 (by omega)
          have hne2 : (((E : Nat) : Int) != 0) = true := by simp [bne, hne]
          clear hok hbad hstp hB3 hk3 hE
          go_wp2_with fail
          exact bodyPost_ret (by simp [results, Try.results61, go_sem, c0, c1]) rfl FIN.out
      | 2, _, HN =>
        have hpt := part2
        have hpt' : ∀ w, (Instr.index 111 (.agg #[.func (.func 66) #[] #[], .func (.func 67) #[] #[], .func (.func 68) #[] #[], .func (.func 69) #[] #[], .func (.func 70) #[] #[]]) (.int .i64 ((2 : Nat) : Int))).run Try.prog w = _ := part2
        go_wp2_with fail
        refine (step2 (HN.out.keep (kp_alloc _ _)).ctx (HN.out.keep (kp_alloc _ _)).ns).mono ?_
        rintro e w3 ⟨⟨E, rfl, hok, hbad⟩, hstp⟩
        clear hpt hpt'
        by_cases hE : E = 0
        · subst hE
          have HN3 := Lib.hid ((HN.out.keep (kp_alloc _ _)).step hstp (hok rfl))
          clear hok hbad hstp
          go_wp2_with fail
          go_roundw
          case rel => exact ⟨3, by omega, rfl, HN3.out⟩
          case measure => simp [intOf]
        · have hB3 := (HN.out.keep (kp_alloc _ _)).blk.stp hstp (by omega)
          have hk3 := hstp.kp (HN.out.keep (kp_alloc _ _)).kp (by omega)
          have FIN : Hid (R (.returned (.tuple #[.agg #[.int .i64 0, .slice none 0 0], .int .i64 0, .int .i64 (E : Nat)])) ((w3.setCell ⟨w.heap.size, 0, none⟩ (.int .i64 0)).setCell ⟨w.heap.size, 1, none⟩ (.slice none 0 0))) := by
            show R _ _
            rw [HR.out]
            exact NxR.no (hbad hE) rfl (kp_two hk3 _ _)
          have c0 := hB3.cell 0 rfl; have c1 := hB3.cell 1 rfl; have f0 := hB3.free 0; have f1 := hB3.free 1
          have hne : (((E : Nat) : Int) == 0) = false := beq_eq_false_iff_ne.2 (by omega)
          have hne2 : (((E : Nat) : Int) != 0) = true := by simp [bne, hne]
          clear hok hbad hstp hB3 hk3 hE
          go_wp2_with fail
          exact bodyPost_ret (by simp [results, Try.results61, go_sem, c0, c1]) rfl FIN.out
      | 3, _, HN =>
        have hpt := part3
        have hpt' : ∀ w, (Instr.index 111 (.agg #[.func (.func 66) #[] #[], .func (.func 67) #[] #[], .func (.func 68) #[] #[], .func (.func 69) #[] #[], .func (.func 70) #[] #[]]) (.int .i64 ((3 : Nat) : Int))).run Try.prog w = _ := part3
        go_wp2_with fail
        refine (step3 (HN.out.keep (kp_alloc _ _)).ctx (HN.out.keep (kp_alloc _ _)).ns).mono ?_
        rintro e w3 ⟨⟨E, rfl, hok, hbad⟩, hstp⟩
        clear hpt hpt'
        by_cases hE : E = 0
        · subst hE
          have HN3 := Lib.hid ((HN.out.keep (kp_alloc _ _)).step hstp (hok rfl))
          clear hok hbad hstp
          go_wp2_with fail
          go_roundw
          case rel => exact ⟨4, by omega, rfl, HN3.out⟩
          case measure => simp [intOf]
        · have hB3 := (HN.out.keep (kp_alloc _ _)).blk.stp hstp (by omega)
          have hk3 := hstp.kp (HN.out.keep (kp_alloc _ _)).kp (by omega)
          have FIN : Hid (R (.returned (.tuple #[.agg #[.int .i64 0, .slice none 0 0], .int .i64 0, .int .i64 (E : Nat)])) ((w3.setCell ⟨w.heap.size, 0, none⟩ (.int .i64 0)).setCell ⟨w.heap.size, 1, none⟩ (.slice none 0 0))) := by
            show R _ _
            rw [HR.out]
            exact NxR.no (hbad hE) rfl (kp_two hk3 _ _)
          have c0 := hB3.cell 0 rfl; have c1 := hB3.cell 1 rfl; have f0 := hB3.free 0; have f1 := hB3.free 1
          have hne : (((E : Nat) : Int) == 0) = false := beq_eq_false_iff_ne.2 (by omega)
          have hne2 : (((E : Nat) : Int) != 0) = true := by simp [bne, hne]
          clear hok hbad hstp hB3 hk3 hE
          go_wp2_with fail
          exact bodyPost_ret (by simp [results, Try.results61, go_sem, c0, c1]) rfl FIN.out
      | 4, _, HN =>
        have hpt := part4
        have hpt' : ∀ w, (Instr.index 111 (.agg #[.func (.func 66) #[] #[], .func (.func 67) #[] #[], .func (.func 68) #[] #[], .func (.func 69) #[] #[], .func (.func 70) #[] #[]]) (.int .i64 ((4 : Nat) : Int))).run Try.prog w = _ := part4
        go_wp2_with fail
        refine (step4 (HN.out.keep (kp_alloc _ _)).ctx (HN.out.keep (kp_alloc _ _)).ns).mono ?_
        rintro e w3 ⟨⟨E, rfl, hok, hbad⟩, hstp⟩
        clear hpt hpt'
        by_cases hE : E = 0
        · subst hE
          have HN3 := Lib.hid ((HN.out.keep (kp_alloc _ _)).step hstp (hok rfl))
          clear hok hbad hstp
          go_wp2_with fail
          go_roundw
          case rel => exact ⟨5, by omega, rfl, HN3.out⟩
          case measure => simp [intOf]
        · have hB3 := (HN.out.keep (kp_alloc _ _)).blk.stp hstp (by omega)
          have hk3 := hstp.kp (HN.out.keep (kp_alloc _ _)).kp (by omega)
          have FIN : Hid (R (.returned (.tuple #[.agg #[.int .i64 0, .slice none 0 0], .int .i64 0, .int .i64 (E : Nat)])) ((w3.setCell ⟨w.heap.size, 0, none⟩ (.int .i64 0)).setCell ⟨w.heap.size, 1, none⟩ (.slice none 0 0))) := by
            show R _ _
            rw [HR.out]
            exact NxR.no (hbad hE) rfl (kp_two hk3 _ _)
          have c0 := hB3.cell 0 rfl; have c1 := hB3.cell 1 rfl; have f0 := hB3.free 0; have f1 := hB3.free 1
          have hne : (((E : Nat) : Int) == 0) = false := beq_eq_false_iff_ne.2 (by omega)
          have hne2 : (((E : Nat) : Int) != 0) = true := by simp [bne, hne]
          clear hok hbad hstp hB3 hk3 hE
          go_wp2_with fail
          exact bodyPost_ret (by simp [results, Try.results61, go_sem, c0, c1]) rfl FIN.out
      | n + 5, h, _ => exact absurd h (by omega)
    · obtain rfl : k = 5 := by omega
      have h5 : NS wx (w.heap.size + 1) ao len cap xs i 5 := HN.out.ns
      obtain ⟨h1, h2, h3, n, p, hr, hn, hp4, hs, po, pc, hV, hst⟩ := h5
      have hnx := nx_ok (by have := HL.out; omega) h2 h3 hr hn (by have := HL.out; omega) hs
      have hslp : Sl wx (.slice po n pc) ((xs.drop p).take n) := by
        have := HN.out.ctx.sl.cut p (p + n) (by omega) (by omega)
        rwa [hV, List.drop_take, show p + n - p = n by omega] at this
      obtain ⟨K, hK⟩ : ∃ K, K = xs[i + 1]?.getD 0 := ⟨_, rfl⟩
      obtain ⟨PL, hPL⟩ : ∃ PL, PL = (xs.drop p).take n := ⟨_, rfl⟩
      rw [← hK] at hst hnx
      rw [← hPL] at hslp hnx
      have c3 := hst.c3; have c5 := hst.c5; have c2 := hst.c2
      have hB := HN.out.blk
      have d0 := hB.cell 0 rfl; have d1 := hB.cell 1 rfl; have f0 := hB.free 0; have f1 := hB.free 1
      have FIN : Hid (∀ (w4 : World) (ao4 : Option Addr) (cp4 : Nat), Sl w4 (.slice ao4 PL.length cp4) PL → New wx.drew.heap.size (.slice ao4 PL.length cp4) → Kp wx.drew w4 →
          R (.returned (.tuple #[.agg #[.int .i64 (K : Nat), .slice ao4 PL.length cp4], .int .i64 ((p : Int) + (n : Int) + 4), .int .i64 0])) ((w4.setCell ⟨w.heap.size, 0, none⟩ (.int .i64 (K : Nat))).setCell ⟨w.heap.size, 1, none⟩ (.slice ao4 PL.length cp4))) := by
        intro w4 ao4 cp4 hs4 hn4 hk4
        rw [HR.out]
        have hon : Only w.heap.size w4 ((w4.setCell ⟨w.heap.size, 0, none⟩ (.int .i64 (K : Nat))).setCell ⟨w.heap.size, 1, none⟩ (.slice ao4 PL.length cp4)) := ((Only.refl _ w4).set 0 _).set 1 _
        have hlt : w.heap.size < wx.drew.heap.size := hB.lt
        refine ⟨⟨.slice ao4 PL.length cp4, ?_, ?_, ?_⟩, Only.kp (Kp.trans HN.out.kp (Kp.trans (kp_drew _) hk4)) hon (Nat.le_refl _)⟩
        · rw [hnx]; simp
        · rw [hnx]
          refine hs4.only hon (fun hx a l c e => ?_)
          have h1 := hn4 a l c e
          omega
        · exact hn4.mono (Nat.le_of_lt hlt)
      have HSL := Lib.hid hslp
      obtain ⟨L, hL⟩ : ∃ L, L = PL.length := ⟨_, rfl⟩
      rw [← hL] at FIN
      have HLL := Lib.hid hL
      clear h1 h2 h3 hr hs hV hst hnx hslp hK hPL hL
      go_wp2_with fail
      go_region_with (go_at_call 65; refine (Clone_any (HSL.out.keep (kp_drew _))).mono ?_; rintro e w4 ⟨⟨v4, rfl, hs4, hn4⟩, hk4⟩; obtain ⟨ao4, cp4, rfl, -, -, -⟩ := hs4.open3; rw [← HLL.out] at hs4 hn4 ⊢; have hk4' := Kp.trans (kp_drew wx) hk4; have e3 := cell_kept c3 hk4'; have e2 := cell_kept c2 hk4'; have e0 := cell_kept d0 hk4'; have e1 := cell_kept d1 hk4'; have g0 := (HN.out.blk.keep hk4').free 0; have g1 := (HN.out.blk.keep hk4').free 1; have FIN4 := Lib.hid (FIN.out w4 ao4 cp4 hs4 hn4 hk4); clear hs4 hn4 hk4 hk4')
      all_goals (go_wp2_with fail; exact bodyPost_ret (by simp [results, Try.results61, go_sem, e0, e1]) rfl FIN4.out)
end By
end Go.Proofs.Ytlfoikjbbbhbdaa
