/- The program's Name and Path. Conditions: the string has at most a million bytes; for Path, a package variable of the library holds some integer. -/
import Derived.Test.YtpgnckjgclbepaaDoorLSpan
import Derived.Test.YtpgnckjgclbepaaDoorLPath
import Derived.Test.YtpgnckjgclbepaaDoorShelf
namespace Go.Proofs.YtpgnckjgclbepaaDoor
namespace By
open Go.RowKit WireN LexN
set_option linter.unusedVariables false
set_option linter.unusedSimpArgs false

set_option maxRecDepth 100000 in
set_option maxHeartbeats 1000000 in
theorem consists_any {l : List Nat} (hl : Lt l) (hlen : l.length ≤ 1000000) {f : Nat} {p : Nat → Bool} (hf : Fits f p) (w : World) :
    Calls Tryd.prog 41 #[.string (st l), .func (.func f) #[] #[]] w fun e w' => e = .returned (.bool (LexN.cons p l)) ∧ w = w' := by
  obtain ⟨n, hn⟩ : ∃ n, n = l.length := ⟨_, rfl⟩
  have qs : ∀ w, (Builtin.len_ #[9] 3 #[.string (st l)]).run Tryd.prog w = .ok (goInt n) w := fun w => by rw [hn]; exact len w
  by_cases h1 : 1 ≤ n
  · by_cases h2 : n ≤ 24
    · have HSP : Hid (∀ w, Calls Tryd.prog 55 #[.string (st l), .int .i64 0, .func (.func f) #[] #[]] w fun e w' => e = .returned (.int .i64 (spn p l 0 : Nat)) ∧ w = w') := Lib.hid (fun w => span_any hl hlen hf (i := 0) (by omega) w)
      obtain ⟨q, hq⟩ : ∃ q, q = spn p l 0 := ⟨_, rfl⟩
      rw [← hq] at HSP
      obtain ⟨b, hb⟩ : ∃ b, b = ((q : Int) == (n : Int)) := ⟨_, rfl⟩
      have HE : Hid (LexN.cons p l = b) := Lib.hid (by
        unfold LexN.cons
        rw [← hn, ← hq, hb, decide_eq_true h1, decide_eq_true h2]
        simp only [Bool.true_and]
        by_cases e : q = n
        · simp [e]
        · have : ((q : Int) == (n : Int)) = false := beq_eq_false_iff_ne.2 (by omega)
          rw [this]; simp [e])
      have i1 : ((q : Int) == (n : Int)) = b := hb.symm
      have i2 : (1 : Int) ≤ (n : Int) := by omega
      have i3 : (n : Int) ≤ 24 := by omega
      obtain ⟨S, hS⟩ : ∃ S, S = st l := ⟨_, rfl⟩
      rw [← hS] at qs HSP ⊢
      clear hn hq hb hS hl h1 h2 hf
      go_enter Tryd.func41, Tryd.ntmps41
      go_wp2_with fail
      refine (HSP.out _).mono ?_
      rintro e w' ⟨rfl, rfl⟩
      go_wp2_with fail
      go_ret
      exact ⟨ret_bool HE.out.symm, rfl⟩
    · have HE : Hid (LexN.cons p l = false) := Lib.hid (by unfold LexN.cons; rw [← hn, decide_eq_false h2]; simp)
      have i2 : (1 : Int) ≤ (n : Int) := by omega
      have i3 : (24 : Int) < (n : Int) := by omega
      have i4 : decide ((n : Int) ≤ 24) = false := by simp; omega
      obtain ⟨S, hS⟩ : ∃ S, S = st l := ⟨_, rfl⟩
      rw [← hS] at qs ⊢
      clear hn hS hl h1 h2 hf hlen
      go_enter Tryd.func41, Tryd.ntmps41
      go_wp2_with fail
      go_ret
      exact ⟨ret_bool HE.out.symm, rfl⟩
  · have HE : Hid (LexN.cons p l = false) := Lib.hid (by unfold LexN.cons; rw [← hn, decide_eq_false h1]; simp)
    have i3 : (n : Int) < 1 := by omega
    have i4 : decide ((1 : Int) ≤ (n : Int)) = false := by simp; omega
    obtain ⟨S, hS⟩ : ∃ S, S = st l := ⟨_, rfl⟩
    rw [← hS] at qs ⊢
    clear hn hS hl h1 hf hlen
    go_enter Tryd.func41, Tryd.ntmps41
    go_wp2_with fail
    go_ret
    exact ⟨ret_bool HE.out.symm, rfl⟩
theorem cons_pos {p : Nat → Bool} {l : List Nat} (h : LexN.cons p l = true) : 1 ≤ l.length := by
  unfold LexN.cons at h
  simp only [Bool.and_eq_true, decide_eq_true_eq] at h
  exact h.1
set_option maxRecDepth 100000 in
set_option maxHeartbeats 1000000 in
theorem Name_any {l : List Nat} (hl : Lt l) (hlen : l.length ≤ 1000000) (w : World) :
    Calls Tryd.prog 30 #[.string (st l)] w fun e w' => e = .returned (.bool (nameB l)) ∧ w = w' := by
  have HC := Lib.hid (fun w => consists_any hl hlen fitsName w)
  by_cases h : LexN.cons inner l = true
  · have HE : Hid (nameB l = letter (at' l 0)) := Lib.hid (by unfold nameB; rw [h]; simp)
    have hx : ∀ w, (Instr.index 9 (.string (st l)) (.int .i64 0)).run Tryd.prog w = .ok (.int .u8 (at' l 0 : Nat)) w := fun w => idx hl (i := 0) (by have := cons_pos h; omega) w
    rw [h] at HC
    obtain ⟨S, hS⟩ : ∃ S, S = st l := ⟨_, rfl⟩
    rw [← hS] at HC hx ⊢
    obtain ⟨c, hc⟩ : ∃ c, c = at' l 0 := ⟨_, rfl⟩
    rw [← hc] at hx HE
    clear hS hl h hc
    go_enter Tryd.func30, Tryd.ntmps30
    go_wp2_with fail
    refine (HC.out _).mono ?_
    rintro e w' ⟨rfl, rfl⟩
    go_wp2_with fail
    refine (isLetter_any c _).mono ?_
    rintro e w' ⟨rfl, rfl⟩
    obtain ⟨b, hb⟩ : ∃ b, b = letter c := ⟨_, rfl⟩
    rw [← hb]
    rw [← hb] at HE
    clear hb
    go_wp2_with fail
    go_ret
    exact ⟨ret_bool HE.out.symm, rfl⟩
  · have h : LexN.cons inner l = false := by simpa using h
    have HE : Hid (nameB l = false) := Lib.hid (by unfold nameB; rw [h]; simp)
    rw [h] at HC
    obtain ⟨S, hS⟩ : ∃ S, S = st l := ⟨_, rfl⟩
    rw [← hS] at HC ⊢
    clear hS hl h
    go_enter Tryd.func30, Tryd.ntmps30
    go_wp2_with fail
    refine (HC.out _).mono ?_
    rintro e w' ⟨rfl, rfl⟩
    go_wp2_with fail
    go_ret
    exact ⟨ret_bool HE.out.symm, rfl⟩
/-- The library's pieces are the parts. -/
theorem split_st {l : List Nat} (hl : Lt l) : Lib.splitB ⟨#[47]⟩ 0 (Lib.countB (st l) ⟨#[47]⟩) (st l) = (parts l).map st := by
  have h1 := Lib.splitB_data ⟨#[47]⟩ 0 (Lib.countB (st l) ⟨#[47]⟩) (st l)
  have hd : ∀ xs : List Nat, (st xs).data.toList = xs.map fun n => UInt8.ofNat n := fun xs => by simp [st]
  have h2 := split_parts l (fun x hx => hl.mem hx)
  have h3 : Lib.splitK [47] 0 (Lib.countB (st l) ⟨#[47]⟩) (st l).data.toList = (parts l).map fun p => p.map fun n => UInt8.ofNat n := by
    rw [← h2, hd]
    unfold Lib.split
    congr 1
  have h4 : (Lib.splitB ⟨#[47]⟩ 0 (Lib.countB (st l) ⟨#[47]⟩) (st l)).map (·.data.toList) = ((parts l).map st).map (·.data.toList) := by
    rw [h1, List.map_map]
    refine Eq.trans h3 ?_
    refine List.map_congr_left fun p _ => ?_
    exact (hd p).symm
  refine List.map_inj_right (f := fun s : ByteArray => s.data.toList) (fun a b e => ?_) |>.1 h4
  cases a; cases b
  simp only [ByteArray.mk.injEq]
  exact Array.toList_inj.1 e
theorem split_count {l : List Nat} (hl : Lt l) : Lib.countB (st l) ⟨#[47]⟩ + 1 = (parts l).length := by
  have h := congrArg List.length (split_st hl)
  rw [List.length_map, Lib.splitB_all ⟨#[47]⟩ (by decide) 0 _ _ rfl] at h
  exact h
theorem lt_mem {l : List Nat} (h : ∀ x ∈ l, x < 256) : Lt l := lt_of_mem h

set_option maxRecDepth 100000 in
set_option maxHeartbeats 1000000 in
theorem Path_any {l : List Nat} (hl : Lt l) (hlen : l.length ≤ 1000000) {m : Int} {w : World} (hm : w.cell? ⟨1, 0, none⟩ = some (.int .i64 m)) :
    Calls Tryd.prog 31 #[.string (st l)] w fun e w' => e = .returned (.bool (pathB l)) ∧ Kp w w' := by
  obtain ⟨n, hn⟩ : ∃ n, n = l.length := ⟨_, rfl⟩
  have qs : ∀ w, (Builtin.len_ #[9] 3 #[.string (st l)]).run Tryd.prog w = .ok (goInt n) w := fun w => by rw [hn]; exact len w
  have HSPL := Lib.hid (Tryd.strings_Split (st l) ⟨#[47]⟩ m w (by rw [st_size]; omega) hm (by decide))
  rw [split_count hl, split_st hl] at HSPL
  have hpl := parts_len l
  have HSUB := Lib.hid (fun p hp => parts_sub l p hp)
  obtain ⟨ps, hps⟩ : ∃ ps, ps = parts l := ⟨_, rfl⟩
  obtain ⟨pn, hpn⟩ : ∃ pn, pn = ps.length := ⟨_, rfl⟩
  have hpB : pathB l = (decide (n ≤ 80) && (decide (pn ≤ 8) && ps.all (LexN.cons part'))) := by rw [hn, hpn, hps]; rfl
  rw [← hps] at HSPL HSUB hpl
  rw [← hpn] at HSPL hpl
  have HPN := Lib.hid hpn
  have HLEN : Hid (l.length ≤ 1000000) := Lib.hid hlen
  have HLT := Lib.hid hl
  obtain ⟨S, hS⟩ : ∃ S, S = st l := ⟨_, rfl⟩
  rw [← hS] at qs HSPL ⊢
  have hpn1 : pn ≤ 1000001 := by omega
  by_cases h1 : n ≤ 80
  · have i1 : (n : Int) ≤ 80 := by omega
    by_cases h2 : pn ≤ 8
    · have i2 : (pn : Int) ≤ 8 := by omega
      have HPB : Hid (pathB l = ps.all (LexN.cons part')) := Lib.hid (by rw [hpB, decide_eq_true h1, decide_eq_true h2]; simp)
      clear hpB hn hS hm hps hpn hl hlen hpl
      go_enter Tryd.func31, Tryd.ntmps31
      go_wp2_with fail
      refine HSPL.out.mono ?_
      rintro e w1 ⟨rfl, hw1⟩
      have HK1 : Hid (Kp w w1) := Lib.hid (hw1 ▸ kp_alloc w _)
      have HB1 : Hid (Blk w1 w.heap.size 9 ((ps.map st).map Value.string).toArray) := Lib.hid (hw1 ▸ Blk.new w _ _)
      clear hw1
      go_wp2_with fail
      go_loop [16] (fun v => ∃ k : Nat, v = .int .i64 k ∧ k ≤ pn ∧ (ps.take k).all (LexN.cons part') = true) (fun v => pn - (intOf v).toNat)
      case atStart => exact ⟨0, rfl, Nat.zero_le _, by simp⟩
      case round =>
        obtain ⟨k, rfl, hk, hall⟩ := hrel
        have HALL := Lib.hid hall
        clear hall
        by_cases hkp : k < pn
        · have hkl : k < ps.length := by have := HPN.out; omega
          have hc : w1.cell? ⟨w.heap.size, k, none⟩ = some (.string (st ps[k])) := HB1.out.cell k (by simp [hkl])
          have hmem := HSUB.out ps[k] (List.getElem_mem hkl)
          have HST : Hid ((ps.take (k + 1)).all (LexN.cons part') = LexN.cons part' ps[k]) := Lib.hid (by
            rw [List.take_succ_eq_append_getElem hkl, List.all_append, HALL.out]; simp)
          have HMEM : Hid (ps[k] ∈ ps) := Lib.hid (List.getElem_mem hkl)
          obtain ⟨x, hx⟩ : ∃ x, x = ps[k] := ⟨_, rfl⟩
          rw [← hx] at hc hmem HST HMEM
          have HCO := Lib.hid (fun w => consists_any (l := x) (lt_mem fun y hy => HLT.out.mem (hmem.2 y hy)) (by have := HLEN.out; omega) fitsPart w)
          obtain ⟨X, hX⟩ : ∃ X, X = st x := ⟨_, rfl⟩
          rw [← hX] at hc HCO
          clear hx hmem hkl hX
          go_wp2_with fail
          refine (HCO.out _).mono ?_
          rintro e w' ⟨rfl, rfl⟩
          by_cases hb : LexN.cons part' x = true
          · rw [hb]
            have HB := Lib.hid hb
            clear hb
            go_wp2_with fail
            go_round
            case rel => exact ⟨k + 1, by go_num, by omega, by rw [HST.out]; exact HB.out⟩
            case measure => simp [intOf]; omega
          · have hb : LexN.cons part' x = false := by simpa using hb
            have HF : Hid (pathB l = false) := Lib.hid (by
              rw [HPB.out, Bool.eq_false_iff]
              intro h
              have := List.all_eq_true.1 h x HMEM.out
              rw [hb] at this; cases this)
            rw [hb]
            clear hb
            go_wp2_with fail
            go_ret
            exact ⟨ret_bool HF.out.symm, HK1.out⟩
        · have HF : Hid (pathB l = true) := Lib.hid (by
            have h := HALL.out
            rw [List.take_of_length_le (by have := HPN.out; omega)] at h
            rw [HPB.out, h])
          go_wp2_with fail
          go_ret
          exact ⟨ret_bool HF.out.symm, HK1.out⟩
    · have i2 : (8 : Int) < (pn : Int) := by omega
      have HF : Hid (pathB l = false) := Lib.hid (by rw [hpB, decide_eq_false h2]; simp)
      clear hpB hn hS hm hps hpn hl hlen hpl
      go_enter Tryd.func31, Tryd.ntmps31
      go_wp2_with fail
      refine HSPL.out.mono ?_
      rintro e w1 ⟨rfl, hw1⟩
      have HK1 : Hid (Kp w w1) := Lib.hid (hw1 ▸ kp_alloc w _)
      clear hw1
      go_wp2_with fail
      go_ret
      exact ⟨ret_bool HF.out.symm, HK1.out⟩
  · have i1 : (80 : Int) < (n : Int) := by omega
    have HF : Hid (pathB l = false) := Lib.hid (by rw [hpB, decide_eq_false h1]; simp)
    clear hpB hn hS hm hps hpn hl hlen hpl
    go_enter Tryd.func31, Tryd.ntmps31
    go_wp2_with fail
    go_ret
    exact ⟨ret_bool HF.out.symm, Kp.refl _⟩
end By
end Go.Proofs.YtpgnckjgclbepaaDoor
