/- The program's Name and Path. Conditions: the string has at most a million bytes; for Path, a package variable of the library holds some integer. -/
import Derived.Test.YtmflgfojicaecaaGreatDoorMLa
import Derived.Test.YtmflgfojicaecaaGreatDoorLPath
import Derived.Test.YtmflgfojicaecaaGreatDoorShelf
import Derived.Test.YtmflgfojicaecaaGreatDoorLToks
namespace Go.Proofs.YtmflgfojicaecaaGreatDoor
namespace By
open Go.RowKit WireN LexN
set_option linter.unusedVariables false
set_option linter.unusedSimpArgs false

set_option maxRecDepth 100000 in
set_option maxHeartbeats 1000000 in
theorem consists_any {l : List Nat} (hl : Lt l) (hlen : l.length ≤ 1000000) {f : Nat} {p : Nat → Bool} (hf : Fits f p) (w : World) :
    Calls Tryz.prog 135 #[.string (st l), .func (.func f) #[] #[]] w fun e w' => e = .returned (.bool (LexN.cons p l)) ∧ w = w' := by
  obtain ⟨n, hn⟩ : ∃ n, n = l.length := ⟨_, rfl⟩
  have qs : ∀ w, (Builtin.len_ #[9] 3 #[.string (st l)]).run Tryz.prog w = .ok (goInt n) w := fun w => by rw [hn]; exact len w
  by_cases h1 : 1 ≤ n
  · by_cases h2 : n ≤ 24
    · have HSP : Hid (∀ w, Calls Tryz.prog 82 #[.string (st l), .int .i64 0, .func (.func f) #[] #[]] w fun e w' => e = .returned (.int .i64 (spn p l 0 : Nat)) ∧ w = w') := Lib.hid (fun w => span_any hl hlen hf (i := 0) (by omega) w)
      obtain ⟨q, hq⟩ : ∃ q, q = spn p l 0 := ⟨_, rfl⟩
      rw [← hq] at HSP
      obtain ⟨b, hb⟩ : ∃ b, b = ((q : Int) == (n : Int)) := ⟨_, rfl⟩
      have HE : Hid (LexN.cons p l = b) := Lib.hid (by
        unfold LexN.cons
        rw [← hn, ← hq, hb, decide_eq_true h1, decide_eq_true h2]
        simp only [Bool.true_and]
        by_cases e : q = n
        · simp [e]
        · have : ((q : Int) == (n : Int)) = false := beq_eq_false_iff_ne.2 (by omega)
          rw [this]; simp [e])
      have i1 : ((q : Int) == (n : Int)) = b := hb.symm
      have i2 : (1 : Int) ≤ (n : Int) := by omega
      have i3 : (n : Int) ≤ 24 := by omega
      obtain ⟨S, hS⟩ : ∃ S, S = st l := ⟨_, rfl⟩
      rw [← hS] at qs HSP ⊢
      clear hn hq hb hS hl h1 h2 hf
      go_enter Tryz.func135, Tryz.ntmps135
      go_wp2_with fail
      refine (HSP.out _).mono ?_
      rintro e w' ⟨rfl, rfl⟩
      go_wp2_with fail
      go_ret
      exact ⟨ret_bool HE.out.symm, rfl⟩
    · have HE : Hid (LexN.cons p l = false) := Lib.hid (by unfold LexN.cons; rw [← hn, decide_eq_false h2]; simp)
      have i2 : (1 : Int) ≤ (n : Int) := by omega
      have i3 : (24 : Int) < (n : Int) := by omega
      have i4 : decide ((n : Int) ≤ 24) = false := by simp; omega
      obtain ⟨S, hS⟩ : ∃ S, S = st l := ⟨_, rfl⟩
      rw [← hS] at qs ⊢
      clear hn hS hl h1 h2 hf hlen
      go_enter Tryz.func135, Tryz.ntmps135
      go_wp2_with fail
      go_ret
      exact ⟨ret_bool HE.out.symm, rfl⟩
  · have HE : Hid (LexN.cons p l = false) := Lib.hid (by unfold LexN.cons; rw [← hn, decide_eq_false h1]; simp)
    have i3 : (n : Int) < 1 := by omega
    have i4 : decide ((1 : Int) ≤ (n : Int)) = false := by simp; omega
    obtain ⟨S, hS⟩ : ∃ S, S = st l := ⟨_, rfl⟩
    rw [← hS] at qs ⊢
    clear hn hS hl h1 hf hlen
    go_enter Tryz.func135, Tryz.ntmps135
    go_wp2_with fail
    go_ret
    exact ⟨ret_bool HE.out.symm, rfl⟩
theorem cons_pos {p : Nat → Bool} {l : List Nat} (h : LexN.cons p l = true) : 1 ≤ l.length := by
  unfold LexN.cons at h
  simp only [Bool.and_eq_true, decide_eq_true_eq] at h
  exact h.1
set_option maxRecDepth 100000 in
set_option maxHeartbeats 1000000 in
theorem Name_any {l : List Nat} (hl : Lt l) (hlen : l.length ≤ 1000000) (w : World) :
    Calls Tryz.prog 97 #[.string (st l)] w fun e w' => e = .returned (.bool (nameB l)) ∧ w = w' := by
  have HC := Lib.hid (fun w => consists_any hl hlen fitsName w)
  by_cases h : LexN.cons inner l = true
  · have HE : Hid (nameB l = letter (at' l 0)) := Lib.hid (by unfold nameB; rw [h]; simp)
    have hx : ∀ w, (Instr.index 9 (.string (st l)) (.int .i64 0)).run Tryz.prog w = .ok (.int .u8 (at' l 0 : Nat)) w := fun w => idx hl (i := 0) (by have := cons_pos h; omega) w
    rw [h] at HC
    obtain ⟨S, hS⟩ : ∃ S, S = st l := ⟨_, rfl⟩
    rw [← hS] at HC hx ⊢
    obtain ⟨c, hc⟩ : ∃ c, c = at' l 0 := ⟨_, rfl⟩
    rw [← hc] at hx HE
    clear hS hl h hc
    go_enter Tryz.func97, Tryz.ntmps97
    go_wp2_with fail
    refine (HC.out _).mono ?_
    rintro e w' ⟨rfl, rfl⟩
    go_wp2_with fail
    refine (isLetter_any c _).mono ?_
    rintro e w' ⟨rfl, rfl⟩
    obtain ⟨b, hb⟩ : ∃ b, b = letter c := ⟨_, rfl⟩
    rw [← hb]
    rw [← hb] at HE
    clear hb
    go_wp2_with fail
    go_ret
    exact ⟨ret_bool HE.out.symm, rfl⟩
  · have h : LexN.cons inner l = false := by simpa using h
    have HE : Hid (nameB l = false) := Lib.hid (by unfold nameB; rw [h]; simp)
    rw [h] at HC
    obtain ⟨S, hS⟩ : ∃ S, S = st l := ⟨_, rfl⟩
    rw [← hS] at HC ⊢
    clear hS hl h
    go_enter Tryz.func97, Tryz.ntmps97
    go_wp2_with fail
    refine (HC.out _).mono ?_
    rintro e w' ⟨rfl, rfl⟩
    go_wp2_with fail
    go_ret
    exact ⟨ret_bool HE.out.symm, rfl⟩
/-- The library's pieces are the parts. -/
theorem split_st {l : List Nat} (hl : Lt l) : Lib.splitB ⟨#[47]⟩ 0 (Lib.countB (st l) ⟨#[47]⟩) (st l) = (parts l).map st := by
  have h1 := Lib.splitB_data ⟨#[47]⟩ 0 (Lib.countB (st l) ⟨#[47]⟩) (st l)
  have hd : ∀ xs : List Nat, (st xs).data.toList = xs.map fun n => UInt8.ofNat n := fun xs => by simp [st]
  have h2 := split_parts l (fun x hx => hl.mem hx)
  have h3 : Lib.splitK [47] 0 (Lib.countB (st l) ⟨#[47]⟩) (st l).data.toList = (parts l).map fun p => p.map fun n => UInt8.ofNat n := by
    rw [← h2, hd]
    unfold Lib.split
    congr 1
  have h4 : (Lib.splitB ⟨#[47]⟩ 0 (Lib.countB (st l) ⟨#[47]⟩) (st l)).map (·.data.toList) = ((parts l).map st).map (·.data.toList) := by
    rw [h1, List.map_map]
    refine Eq.trans h3 ?_
    refine List.map_congr_left fun p _ => ?_
    exact (hd p).symm
  refine List.map_inj_right (f := fun s : ByteArray => s.data.toList) (fun a b e => ?_) |>.1 h4
  cases a; cases b
  simp only [ByteArray.mk.injEq]
  exact Array.toList_inj.1 e
theorem split_count {l : List Nat} (hl : Lt l) : Lib.countB (st l) ⟨#[47]⟩ + 1 = (parts l).length := by
  have h := congrArg List.length (split_st hl)
  rw [List.length_map, Lib.splitB_all ⟨#[47]⟩ (by decide) 0 _ _ rfl] at h
  exact h
theorem lt_mem {l : List Nat} (h : ∀ x ∈ l, x < 256) : Lt l := lt_of_mem h

set_option maxRecDepth 100000 in
set_option maxHeartbeats 1000000 in
theorem Path_any {l : List Nat} (hl : Lt l) (hlen : l.length ≤ 1000000) {m : Int} {w : World} (hm : w.cell? ⟨1, 0, none⟩ = some (.int .i64 m)) :
    Calls Tryz.prog 104 #[.string (st l)] w fun e w' => e = .returned (.bool (pathB l)) ∧ Kp w w' := by
  obtain ⟨n, hn⟩ : ∃ n, n = l.length := ⟨_, rfl⟩
  have qs : ∀ w, (Builtin.len_ #[9] 3 #[.string (st l)]).run Tryz.prog w = .ok (goInt n) w := fun w => by rw [hn]; exact len w
  have HSPL := Lib.hid (Tryz.strings_Split (st l) ⟨#[47]⟩ m w (by rw [st_size]; omega) hm (by decide))
  rw [split_count hl, split_st hl] at HSPL
  have hpl := parts_len l
  have HSUB := Lib.hid (fun p hp => parts_sub l p hp)
  obtain ⟨ps, hps⟩ : ∃ ps, ps = parts l := ⟨_, rfl⟩
  obtain ⟨pn, hpn⟩ : ∃ pn, pn = ps.length := ⟨_, rfl⟩
  have hpB : pathB l = (decide (n ≤ 80) && (decide (pn ≤ 8) && ps.all (LexN.cons part'))) := by rw [hn, hpn, hps]; rfl
  rw [← hps] at HSPL HSUB hpl
  rw [← hpn] at HSPL hpl
  have HPN := Lib.hid hpn
  have HLEN : Hid (l.length ≤ 1000000) := Lib.hid hlen
  have HLT := Lib.hid hl
  obtain ⟨S, hS⟩ : ∃ S, S = st l := ⟨_, rfl⟩
  rw [← hS] at qs HSPL ⊢
  have hpn1 : pn ≤ 1000001 := by omega
  by_cases h1 : n ≤ 80
  · have i1 : (n : Int) ≤ 80 := by omega
    by_cases h2 : pn ≤ 8
    · have i2 : (pn : Int) ≤ 8 := by omega
      have HPB : Hid (pathB l = ps.all (LexN.cons part')) := Lib.hid (by rw [hpB, decide_eq_true h1, decide_eq_true h2]; simp)
      clear hpB hn hS hm hps hpn hl hlen hpl
      go_enter Tryz.func104, Tryz.ntmps104
      go_wp2_with fail
      refine HSPL.out.mono ?_
      rintro e w1 ⟨rfl, hw1⟩
      have HK1 : Hid (Kp w w1) := Lib.hid (hw1 ▸ kp_alloc w _)
      have HB1 : Hid (Blk w1 w.heap.size 9 ((ps.map st).map Value.string).toArray) := Lib.hid (hw1 ▸ Blk.new w _ _)
      clear hw1
      go_wp2_with fail
      go_loop [16] (fun v => ∃ k : Nat, v = .int .i64 k ∧ k ≤ pn ∧ (ps.take k).all (LexN.cons part') = true) (fun v => pn - (intOf v).toNat)
      case atStart => exact ⟨0, rfl, Nat.zero_le _, by simp⟩
      case round =>
        obtain ⟨k, rfl, hk, hall⟩ := hrel
        have HALL := Lib.hid hall
        clear hall
        by_cases hkp : k < pn
        · have hkl : k < ps.length := by have := HPN.out; omega
          have hc : w1.cell? ⟨w.heap.size, k, none⟩ = some (.string (st ps[k])) := HB1.out.cell k (by simp [hkl])
          have hmem := HSUB.out ps[k] (List.getElem_mem hkl)
          have HST : Hid ((ps.take (k + 1)).all (LexN.cons part') = LexN.cons part' ps[k]) := Lib.hid (by
            rw [List.take_succ_eq_append_getElem hkl, List.all_append, HALL.out]; simp)
          have HMEM : Hid (ps[k] ∈ ps) := Lib.hid (List.getElem_mem hkl)
          obtain ⟨x, hx⟩ : ∃ x, x = ps[k] := ⟨_, rfl⟩
          rw [← hx] at hc hmem HST HMEM
          have HCO := Lib.hid (fun w => consists_any (l := x) (lt_mem fun y hy => HLT.out.mem (hmem.2 y hy)) (by have := HLEN.out; omega) fitsPart w)
          obtain ⟨X, hX⟩ : ∃ X, X = st x := ⟨_, rfl⟩
          rw [← hX] at hc HCO
          clear hx hmem hkl hX
          go_wp2_with fail
          refine (HCO.out _).mono ?_
          rintro e w' ⟨rfl, rfl⟩
          by_cases hb : LexN.cons part' x = true
          · rw [hb]
            have HB := Lib.hid hb
            clear hb
            go_wp2_with fail
            go_round
            case rel => exact ⟨k + 1, by go_num, by omega, by rw [HST.out]; exact HB.out⟩
            case measure => simp [intOf]; omega
          · have hb : LexN.cons part' x = false := by simpa using hb
            have HF : Hid (pathB l = false) := Lib.hid (by
              rw [HPB.out, Bool.eq_false_iff]
              intro h
              have := List.all_eq_true.1 h x HMEM.out
              rw [hb] at this; cases this)
            rw [hb]
            clear hb
            go_wp2_with fail
            go_ret
            exact ⟨ret_bool HF.out.symm, HK1.out⟩
        · have HF : Hid (pathB l = true) := Lib.hid (by
            have h := HALL.out
            rw [List.take_of_length_le (by have := HPN.out; omega)] at h
            rw [HPB.out, h])
          go_wp2_with fail
          go_ret
          exact ⟨ret_bool HF.out.symm, HK1.out⟩
    · have i2 : (8 : Int) < (pn : Int) := by omega
      have HF : Hid (pathB l = false) := Lib.hid (by rw [hpB, decide_eq_false h2]; simp)
      clear hpB hn hS hm hps hpn hl hlen hpl
      go_enter Tryz.func104, Tryz.ntmps104
      go_wp2_with fail
      refine HSPL.out.mono ?_
      rintro e w1 ⟨rfl, hw1⟩
      have HK1 : Hid (Kp w w1) := Lib.hid (hw1 ▸ kp_alloc w _)
      clear hw1
      go_wp2_with fail
      go_ret
      exact ⟨ret_bool HF.out.symm, HK1.out⟩
  · have i1 : (80 : Int) < (n : Int) := by omega
    have HF : Hid (pathB l = false) := Lib.hid (by rw [hpB, decide_eq_false h1]; simp)
    clear hpB hn hS hm hps hpn hl hlen hpl
    go_enter Tryz.func104, Tryz.ntmps104
    go_wp2_with fail
    go_ret
    exact ⟨ret_bool HF.out.symm, Kp.refl _⟩
end By
end Go.Proofs.YtmflgfojicaecaaGreatDoor

/- The reference's Name and Path. Condition: the string has at most a million bytes. -/
namespace Go.Proofs.YtmflgfojicaecaaGreatDoor
namespace By
open Go.RowKit WireN LexN
set_option linter.unusedVariables false
set_option linter.unusedSimpArgs false

theorem all_take {p : Nat → Bool} {l : List Nat} {k : Nat} (h : k < l.length) : (l.take (k + 1)).all p = ((l.take k).all p && p (at' l k)) := by
  rw [List.take_succ_eq_append_getElem h, List.all_append]
  simp [at', h]
theorem all_false {p : Nat → Bool} {l : List Nat} {k : Nat} (h : k < l.length) (hp : p (at' l k) = false) : l.all p = false := by
  rw [Bool.eq_false_iff]
  intro ha
  have := List.all_eq_true.1 ha l[k] (List.getElem_mem h)
  simp [at', h] at hp
  rw [hp] at this; cases this
set_option maxRecDepth 100000 in
set_option maxHeartbeats 1000000 in
theorem rName_any {l : List Nat} (hl : Lt l) (hlen : l.length ≤ 1000000) (w : World) :
    Calls Tryz.prog 62 #[.string (st l)] w fun e w' => e = .returned (.bool (nameB l)) ∧ w = w' := by
  obtain ⟨n, hn⟩ : ∃ n, n = l.length := ⟨_, rfl⟩
  have HN := Lib.hid hn
  have qs : ∀ w, (Builtin.len_ #[9] 3 #[.string (st l)]).run Tryz.prog w = .ok (goInt n) w := fun w => by rw [hn]; exact len w
  have hB : nameB l = ((decide (1 ≤ n) && (decide (n ≤ 24) && l.all inner)) && letter (at' l 0)) := by unfold nameB; rw [cons_eq, hn]
  by_cases h1 : 1 ≤ n
  · have i1 : (1 : Int) ≤ (n : Int) := by omega
    by_cases h2 : n ≤ 24
    · have i2 : (n : Int) ≤ 24 := by omega
      rw [decide_eq_true h1, decide_eq_true h2] at hB
      simp only [Bool.true_and] at hB
      have hx0 : ∀ w, (Instr.index 9 (.string (st l)) (.int .i64 0)).run Tryz.prog w = .ok (.int .u8 (at' l 0 : Nat)) w := fun w => idx hl (i := 0) (by omega) w
      obtain ⟨S, hS⟩ : ∃ S, S = st l := ⟨_, rfl⟩
      have HS := Lib.hid hS; have HL := Lib.hid hl
      rw [← hS] at qs hx0 ⊢
      obtain ⟨c, hc⟩ : ∃ c, c = at' l 0 := ⟨_, rfl⟩
      rw [← hc] at hx0 hB
      by_cases hlt : letter c = true
      · have HLT := Lib.hid hlt
        rw [hlt, Bool.and_true] at hB
        have HB := Lib.hid hB
        clear hn hS hl h1 h2 hB hc hlt
        go_enter Tryz.func62, Tryz.ntmps62
        go_wp2_with fail
        refine (letter_any c _).mono ?_
        rintro e w' ⟨rfl, rfl⟩
        rw [HLT.out]
        go_wp2_with fail
        clear hx0
        go_loop [3] (fun v => ∃ k : Nat, v = .int .i64 k ∧ k ≤ n ∧ (l.take k).all inner = true) (fun v => n - (intOf v).toNat)
        case atStart => exact ⟨0, rfl, Nat.zero_le _, by simp⟩
        case round =>
          obtain ⟨k, rfl, hk, hall⟩ := hrel
          have HALL := Lib.hid hall
          clear hall
          by_cases hkn : k < n
          · have hx : ∀ w, (Instr.index 9 (.string S) (.int .i64 (k : Int))).run Tryz.prog w = .ok (.int .u8 (at' l k : Nat)) w := fun w => by rw [HS.out]; exact idx HL.out (by have := HN.out; omega) w
            have HST : Hid ((l.take (k + 1)).all inner = inner (at' l k)) := Lib.hid (by rw [all_take (by have := HN.out; omega), HALL.out]; simp)
            have HFA : Hid (inner (at' l k) = false → nameB l = false) := Lib.hid (fun h => by rw [HB.out]; exact all_false (by have := HN.out; omega) h)
            obtain ⟨d, hd⟩ : ∃ d, d = at' l k := ⟨_, rfl⟩
            rw [← hd] at hx HST HFA
            clear hd
            go_wp2_with fail
            refine (inner_any d _).mono ?_
            rintro e w' ⟨rfl, rfl⟩
            by_cases hb : inner d = true
            · rw [hb]
              have HBB := Lib.hid hb
              clear hb
              go_wp2_with fail
              go_round
              case rel => exact ⟨k + 1, by go_num, by omega, by rw [HST.out]; exact HBB.out⟩
              case measure => simp [intOf]; omega
            · have hb : inner d = false := by simpa using hb
              have HF := Lib.hid (HFA.out hb)
              rw [hb]
              clear hb
              go_wp2_with fail
              go_ret
              exact ⟨ret_bool HF.out.symm, rfl⟩
          · have HF : Hid (nameB l = true) := Lib.hid (by
              have h := HALL.out
              rw [List.take_of_length_le (by have := HN.out; omega)] at h
              rw [HB.out, h])
            go_wp2_with fail
            go_ret
            exact ⟨ret_bool HF.out.symm, rfl⟩
      · have hlt : letter c = false := by simpa using hlt
        have HLT := Lib.hid hlt
        have HF : Hid (nameB l = false) := Lib.hid (by rw [hB, hlt]; simp)
        clear hn hS hl h1 h2 hB hc hlt
        go_enter Tryz.func62, Tryz.ntmps62
        go_wp2_with fail
        refine (letter_any c _).mono ?_
        rintro e w' ⟨rfl, rfl⟩
        rw [HLT.out]
        go_wp2_with fail
        go_ret
        exact ⟨ret_bool HF.out.symm, rfl⟩
    · have i2 : (24 : Int) < (n : Int) := by omega
      have HF : Hid (nameB l = false) := Lib.hid (by rw [hB, decide_eq_false h2]; simp)
      obtain ⟨S, hS⟩ : ∃ S, S = st l := ⟨_, rfl⟩
      rw [← hS] at qs ⊢
      clear hn hS hl h1 h2 hB hlen
      go_enter Tryz.func62, Tryz.ntmps62
      go_wp2_with fail
      go_ret
      exact ⟨ret_bool HF.out.symm, rfl⟩
  · have i1 : (n : Int) < 1 := by omega
    have HF : Hid (nameB l = false) := Lib.hid (by rw [hB, decide_eq_false h1]; simp)
    obtain ⟨S, hS⟩ : ∃ S, S = st l := ⟨_, rfl⟩
    rw [← hS] at qs ⊢
    clear hn hS hl h1 hB hlen
    go_enter Tryz.func62, Tryz.ntmps62
    go_wp2_with fail
    go_ret
    exact ⟨ret_bool HF.out.symm, rfl⟩

theorem scan_end (l : List Nat) {k p q : Nat} (h : l.length ≤ k) : scan (l.drop k) p q = (decide (0 < q) && decide (p ≤ 8)) := by
  rw [List.drop_eq_nil_of_le h]; rfl
theorem scan_step {l : List Nat} {k p q : Nat} (h : k < l.length) : scan (l.drop k) p q = if at' l k = 47 then (if q = 0 then false else scan (l.drop (k + 1)) (p + 1) 0) else if part' (at' l k) = true then (if 24 < q + 1 then false else scan (l.drop (k + 1)) p (q + 1)) else false := by
  rw [drop_at h, scan]
set_option maxRecDepth 100000 in
set_option maxHeartbeats 1000000 in
theorem rPath_any {l : List Nat} (hl : Lt l) (hlen : l.length ≤ 1000000) (w : World) :
    Calls Tryz.prog 30 #[.string (st l)] w fun e w' => e = .returned (.bool (pathB l)) ∧ w = w' := by
  obtain ⟨n, hn⟩ : ∃ n, n = l.length := ⟨_, rfl⟩
  have HN := Lib.hid hn
  have qs : ∀ w, (Builtin.len_ #[9] 3 #[.string (st l)]).run Tryz.prog w = .ok (goInt n) w := fun w => by rw [hn]; exact len w
  have hB := pathB_scan l
  rw [← hn] at hB
  by_cases h1 : n ≤ 80
  · have i1 : (n : Int) ≤ 80 := by omega
    rw [decide_eq_true h1, Bool.true_and] at hB
    have HB := Lib.hid hB
    obtain ⟨S, hS⟩ : ∃ S, S = st l := ⟨_, rfl⟩
    have HS := Lib.hid hS; have HL := Lib.hid hl
    rw [← hS] at qs ⊢
    clear hn hS hl hB hlen
    go_enter Tryz.func30, Tryz.ntmps30
    go_wp2_with fail
    go_loop [3, 4, 5] (fun p q v => ∃ k P Q : Nat, v = .int .i64 k ∧ k ≤ n ∧ p = .int .i64 P ∧ P ≤ k + 1 ∧ q = .int .i64 Q ∧ Q ≤ k ∧ Q ≤ 24 ∧ pathB l = scan (l.drop k) P Q) (fun _ _ v => n - (intOf v).toNat)
    case atStart => exact ⟨0, 1, 0, rfl, Nat.zero_le _, rfl, by omega, rfl, by omega, by omega, HB.out⟩
    case round =>
      obtain ⟨k, P, Q, rfl, hk, rfl, hP, rfl, hQ, hQ24, hsc⟩ := hrel
      have HSC := Lib.hid hsc
      clear hsc
      by_cases hkn : k < n
      · have hx : ∀ w, (Instr.index 9 (.string S) (.int .i64 (k : Int))).run Tryz.prog w = .ok (.int .u8 (at' l k : Nat)) w := fun w => by rw [HS.out]; exact idx HL.out (by have := HN.out; omega) w
        have HST := Lib.hid (scan_step (l := l) (k := k) (p := P) (q := Q) (by have := HN.out; omega))
        obtain ⟨c, hc⟩ : ∃ c, c = at' l k := ⟨_, rfl⟩
        rw [← hc] at hx HST
        clear hc
        by_cases h47 : c = 47
        · have b1 : ((c : Int) == 47) = true := by rw [h47]; rfl
          by_cases hQ0 : Q = 0
          · have b2 : ((Q : Int) == 0) = true := by rw [hQ0]; rfl
            have HF : Hid (pathB l = false) := Lib.hid (by rw [HSC.out, HST.out, if_pos h47, if_pos hQ0])
            clear h47 hQ0
            go_wp2_with fail
            go_ret
            exact ⟨ret_bool HF.out.symm, rfl⟩
          · have b2 : ((Q : Int) == 0) = false := beq_eq_false_iff_ne.2 (by omega)
            have HF : Hid (pathB l = scan (l.drop (k + 1)) (P + 1) 0) := Lib.hid (by rw [HSC.out, HST.out, if_pos h47, if_neg hQ0])
            clear h47 hQ0
            go_wp2_with fail
            go_round
            case rel => exact ⟨k + 1, P + 1, 0, by go_num, by omega, by go_num, by omega, rfl, by omega, by omega, HF.out⟩
            case measure => simp [intOf]; omega
        · have b1 : ((c : Int) == 47) = false := beq_eq_false_iff_ne.2 (by omega)
          obtain ⟨b, hb⟩ : ∃ b, b = ((c : Int) == 46) := ⟨_, rfl⟩
          have hpt : part' c = (inner c || b) := by
            unfold part'
            rw [hb]
            by_cases h3 : c = 46
            · simp [h3]
            · have : ((c : Int) == 46) = false := beq_eq_false_iff_ne.2 (by omega)
              rw [this]; simp [h3]
          have b3 : ((c : Int) == 46) = b := hb.symm
          clear hb
          by_cases hpa : part' c = true
          · have hor : inner c = true ∨ (inner c = false ∧ b = true) := by
              rw [hpt] at hpa
              cases h : inner c <;> simp_all
            by_cases h24 : 24 < Q + 1
            · have b2 : (24 : Int) < (Q : Int) + 1 := by omega
              have HF : Hid (pathB l = false) := Lib.hid (by rw [HSC.out, HST.out, if_neg h47, if_pos hpa, if_pos h24])
              clear h47 hpa h24 hpt
              rcases hor with hi | ⟨hi, hbt⟩
              · have HI := Lib.hid hi; clear hi
                go_wp2_with fail
                refine (inner_any c _).mono ?_
                rintro e w' ⟨rfl, rfl⟩
                rw [HI.out]
                go_wp2_with fail
                go_ret
                exact ⟨ret_bool HF.out.symm, rfl⟩
              · subst hbt
                have HI := Lib.hid hi; clear hi
                go_wp2_with fail
                refine (inner_any c _).mono ?_
                rintro e w' ⟨rfl, rfl⟩
                rw [HI.out]
                go_wp2_with fail
                go_ret
                exact ⟨ret_bool HF.out.symm, rfl⟩
            · have b2 : (Q : Int) + 1 ≤ 24 := by omega
              have HF : Hid (pathB l = scan (l.drop (k + 1)) P (Q + 1)) := Lib.hid (by rw [HSC.out, HST.out, if_neg h47, if_pos hpa, if_neg h24])
              clear h47 hpa h24 hpt
              rcases hor with hi | ⟨hi, hbt⟩
              · have HI := Lib.hid hi; clear hi
                go_wp2_with fail
                refine (inner_any c _).mono ?_
                rintro e w' ⟨rfl, rfl⟩
                rw [HI.out]
                go_wp2_with fail
                go_round
                case rel => exact ⟨k + 1, P, Q + 1, by go_num, by omega, rfl, by omega, by go_num, by omega, by omega, HF.out⟩
                case measure => simp [intOf]; omega
              · subst hbt
                have HI := Lib.hid hi; clear hi
                go_wp2_with fail
                refine (inner_any c _).mono ?_
                rintro e w' ⟨rfl, rfl⟩
                rw [HI.out]
                go_wp2_with fail
                go_round
                case rel => exact ⟨k + 1, P, Q + 1, by go_num, by omega, rfl, by omega, by go_num, by omega, by omega, HF.out⟩
                case measure => simp [intOf]; omega
          · have hpa : part' c = false := by simpa using hpa
            have HF : Hid (pathB l = false) := Lib.hid (by rw [HSC.out, HST.out, if_neg h47, if_neg (by simp [hpa])])
            rw [hpt] at hpa
            have hi : inner c = false := by cases h : inner c <;> simp_all
            have hbf : b = false := by rw [hi] at hpa; simpa using hpa
            subst hbf
            have HI := Lib.hid hi
            clear h47 hpa hpt hi
            go_wp2_with fail
            refine (inner_any c _).mono ?_
            rintro e w' ⟨rfl, rfl⟩
            rw [HI.out]
            go_wp2_with fail
            go_ret
            exact ⟨ret_bool HF.out.symm, rfl⟩
      · have HE := Lib.hid (scan_end l (k := k) (p := P) (q := Q) (by have := HN.out; omega))
        by_cases hQ0 : 0 < Q
        · have j1 : (0 : Int) < (Q : Int) := by omega
          by_cases hP8 : P ≤ 8
          · have j2 : (P : Int) ≤ 8 := by omega
            have HF : Hid (pathB l = true) := Lib.hid (by rw [HSC.out, HE.out, decide_eq_true hQ0, decide_eq_true hP8]; rfl)
            clear hQ0 hP8
            go_wp2_with fail
            go_ret
            exact ⟨ret_bool HF.out.symm, rfl⟩
          · have j2 : decide ((P : Int) ≤ 8) = false := by simp; omega
            have j3 : (8 : Int) < (P : Int) := by omega
            have HF : Hid (pathB l = false) := Lib.hid (by rw [HSC.out, HE.out, decide_eq_false hP8]; simp)
            clear hQ0 hP8
            go_wp2_with fail
            go_ret
            exact ⟨ret_bool HF.out.symm, rfl⟩
        · have j1 : decide ((0 : Int) < (Q : Int)) = false := by simp; omega
          have j3 : (Q : Int) ≤ 0 := by omega
          have j4 : decide (0 < Q) = false := decide_eq_false hQ0
          have HF : Hid (pathB l = false) := Lib.hid (by rw [HSC.out, HE.out, decide_eq_false hQ0]; simp)
          clear hQ0
          go_wp2_with fail
          go_ret
          exact ⟨ret_bool HF.out.symm, rfl⟩
  · have i1 : (80 : Int) < (n : Int) := by omega
    have HF : Hid (pathB l = false) := Lib.hid (by rw [hB, decide_eq_false h1]; simp)
    obtain ⟨S, hS⟩ : ∃ S, S = st l := ⟨_, rfl⟩
    rw [← hS] at qs ⊢
    clear hn hS hl h1 hB hlen
    go_enter Tryz.func30, Tryz.ntmps30
    go_wp2_with fail
    go_ret
    exact ⟨ret_bool HF.out.symm, rfl⟩
end By
end Go.Proofs.YtmflgfojicaecaaGreatDoor

/- Path where a package variable of the library holds some integer. Condition: it does. -/
namespace Go.Proofs.YtmflgfojicaecaaGreatDoor
namespace By
open Go.RowKit WireN LexN
set_option linter.unusedVariables false
set_option linter.unusedSimpArgs false

/-- The package variable of the library that Split's contract asks for. -/
def MX (w : World) : Prop := ∃ m : Int, w.cell? ⟨1, 0, none⟩ = some (.int .i64 m)
theorem MX.keep {w w' : World} (h : MX w) (hk : Kp w w') : MX w' := by
  obtain ⟨m, hm⟩ := h
  exact ⟨m, cell_kept hm hk⟩
theorem Path_mx {l : List Nat} (hl : Lt l) (hlen : l.length ≤ 1000000) {w : World} (hm : MX w) :
    Calls Tryz.prog 104 #[.string (st l)] w fun e w' => e = .returned (.bool (pathB l)) ∧ Kp w w' := by
  obtain ⟨m, hm⟩ := hm
  exact Path_any hl hlen hm
theorem lt_dec {l : List Nat} (h : l.all (fun x => decide (x < 256)) = true) : Lt l := lt_of_mem fun x hx => by simpa using List.all_eq_true.1 h x hx
end By
end Go.Proofs.YtmflgfojicaecaaGreatDoor

/- The laws' sanity check. Condition: a package variable of the library holds some integer. -/
namespace Go.Proofs.YtmflgfojicaecaaGreatDoor
namespace By
open Go.RowKit WireN LexN
set_option linter.unusedVariables false
set_option linter.unusedSimpArgs false

theorem toks_awake : toks [97, 32, 61, 32, 53, 59, 32, 35, 32, 120] = ([(1, [97], 0, 0), (4, [61], 0, 2), (2, [], 5, 4), (4, [59], 0, 5), (5, [], 0, 10)], 0, 0) := by decide +kernel
theorem path_awake : pathB [97, 47, 98, 46, 99] = true := by decide +kernel
theorem name_awake : nameB [57] = false := by decide +kernel

end By
end Go.Proofs.YtmflgfojicaecaaGreatDoor
