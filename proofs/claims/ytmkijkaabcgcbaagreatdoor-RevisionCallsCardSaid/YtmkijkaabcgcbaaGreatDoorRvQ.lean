/- The program's place: a path among sorted files, by binary search. Condition: the slice reads as the files of a well-formed revision. -/
import Derived.Test.YtmkijkaabcgcbaaGreatDoorMRm
import Derived.Test.YtmkijkaabcgcbaaGreatDoorMRn
import Derived.Test.YtmkijkaabcgcbaaGreatDoorMTk
namespace Go.Proofs.YtmkijkaabcgcbaaGreatDoor
namespace By
open Go.RowKit WireN LexN RevN
set_option linter.unusedVariables false
set_option linter.unusedSimpArgs false

set_option maxRecDepth 100000 in
set_option maxHeartbeats 1000000 in
theorem placeF_any {w : World} {rb pb : Nat} {ao : Option Addr} {n cap : Nat} {fs : List Fl} {p : List Nat} (hr : Rw w (.slice ao n cap) fs) (hp : Lt p) (k : Nat) (hk : k < n)
    (h1 : w.cell? ⟨rb, 0, none⟩ = some (.slice ao n cap)) (h2 : w.cell? ⟨pb, 0, none⟩ = some (.string (st p))) {f : Fl} (hf : fs[k]? = some f) :
    Calls Tryz.prog 61 #[.int .i64 (k : Nat), .pointer (some ⟨rb, 0, none⟩), .pointer (some ⟨pb, 0, none⟩)] w fun e w' => e = .returned (.bool (!lss f.1 p)) ∧ ∃ m, w' = w.drewN m := by
  obtain ⟨ao', cap', e, hcap, hmx, -⟩ := hr.open3
  simp only [Value.slice.injEq] at e
  obtain ⟨rfl, hn, rfl⟩ := e
  have hcp : (n : Int) ≤ (cap : Int) := by omega
  have hki : (k : Int) < (n : Int) := by omega
  obtain ⟨b, off, rfl, hc⟩ := hr.cell (by omega)
  obtain ⟨c0, -⟩ := hc k f hf
  have hl := less_st (hr.lt f (List.mem_of_getElem? hf)).1 hp
  obtain ⟨d, hd⟩ : ∃ d, d = lss f.1 p := ⟨_, rfl⟩
  obtain ⟨S, hS⟩ : ∃ S, S = st f.1 := ⟨_, rfl⟩
  obtain ⟨P, hP⟩ : ∃ P, P = st p := ⟨_, rfl⟩
  rw [← hd] at hl ⊢
  rw [← hS] at hl c0
  rw [← hP] at hl h2
  clear hr hp hf hn hcap hmx hc hd hS hP
  cases d with
  | true =>
    go_enter Tryz.func61, Tryz.ntmps61
    go_wp2_with fail
    go_quiet (fail)
    go_wp2_with fail
    go_ret
    exact ⟨rfl, _, rfl⟩
  | false =>
    go_enter Tryz.func61, Tryz.ntmps61
    go_wp2_with fail
    go_quiet (fail)
    go_wp2_with fail
    go_ret
    exact ⟨rfl, _, rfl⟩
set_option maxRecDepth 100000 in
set_option maxHeartbeats 1000000 in
/-- sort.Search over a function that says whether an index is at least q. -/
theorem Search_any {w : World} {rb pb : Nat} {n q : Nat} (hn : n ≤ 1000) (hq : q ≤ n)
    (hf : ∀ (k m : Nat), k < n → Calls Tryz.prog 61 #[.int .i64 (k : Nat), .pointer (some ⟨rb, 0, none⟩), .pointer (some ⟨pb, 0, none⟩)] (w.drewN m) fun e w' => e = .returned (.bool (decide (q ≤ k))) ∧ ∃ m', w' = (w.drewN m).drewN m') :
    Calls Tryz.prog 60 #[.int .i64 (n : Nat), .func (.func 61) #[] #[.pointer (some ⟨rb, 0, none⟩), .pointer (some ⟨pb, 0, none⟩)]] w fun e w' => e = .returned (.int .i64 (q : Nat)) ∧ Drawn w w' := by
  have HF := Lib.hid hf
  have hni : (n : Int) ≤ 1000 := by omega
  clear hf
  go_enter Tryz.func60, Tryz.ntmps60
  go_wp2_with fail
  go_loopw [5, 6] (fun i j wr => ∃ a b : Nat, i = .int .i64 a ∧ j = .int .i64 b ∧ a ≤ q ∧ q ≤ b ∧ b ≤ n ∧ Drawn w wr) (fun i j _ => (intOf j).toNat - (intOf i).toNat)
  case atStart => exact ⟨0, n, rfl, rfl, Nat.zero_le _, hq, Nat.le_refl _, Drawn.refl _⟩
  case round =>
    obtain ⟨a, b, rfl, rfl, ha, hb, hbn, hd⟩ := hrel
    rename World => wx
    have HD := Lib.hid hd
    obtain ⟨m, rfl⟩ := hd
    by_cases hab : a < b
    · obtain ⟨h, hh⟩ : ∃ h, h = (a + b) / 2 := ⟨_, rfl⟩
      have hab2 : (a : Int) < (b : Int) := by omega
      have hsum : ((a : Int) + (b : Int)) / 2 = (h : Int) := by omega
      go_wp2_with fail
      unfold Oper.wp
      simp [execOp, resolve, Act.eval, go_sem, Result.andThen]
      rw [hsum]
      have hha : a ≤ h := by omega
      have hhb : h < b := by omega
      have hhn : (h : Int) ≤ 1000 := by omega
      have HC := Lib.hid (HF.out h m (by omega))
      have HH := Lib.hid hh
      obtain ⟨d, hd⟩ : ∃ d, d = decide (q ≤ h) := ⟨_, rfl⟩
      rw [← hd] at HC
      have HDD := Lib.hid hd
      clear hh hsum hd
      go_wp2_with fail
      refine HC.out.mono ?_
      rintro e w2 ⟨rfl, m', rfl⟩
      cases d with
      | true =>
        have hqh : q ≤ h := of_decide_eq_true HDD.out.symm
        go_wp2_with fail
        go_roundw
        case rel => exact ⟨a, h, rfl, rfl, ha, hqh, by omega, ⟨m + m', rfl⟩⟩
        case measure => simp [intOf]; omega
      | false =>
        have hqh : h < q := by
          have := of_decide_eq_false HDD.out.symm
          omega
        go_wp2_with fail
        go_roundw
        case rel => exact ⟨h + 1, b, by go_num, rfl, by omega, hb, hbn, ⟨m + m', rfl⟩⟩
        case measure => simp [intOf]; omega
    · have hab2 : (b : Int) ≤ (a : Int) := by omega
      obtain rfl : a = q := by omega
      clear hab
      go_wp2_with fail
      go_ret
      exact ⟨rfl, HD.out⟩
theorem pos_le_iff {fs : List Fl} {p : List Nat} (hc : chk fs = 0) {k : Nat} {f : Fl} (hf : fs[k]? = some f) : (!lss f.1 p) = decide (pos fs p ≤ k) := by
  by_cases h : pos fs p ≤ k
  · rw [pos_ge (chk_ok hc).2 h hf, decide_eq_true h]
    rfl
  · rw [pos_lt (by omega) hf, decide_eq_false h]
    rfl
set_option maxRecDepth 100000 in
set_option maxHeartbeats 2000000 in
theorem place_any {u : Value} {fs : List Fl} {p : List Nat} {w : World} (hr : Rw w u fs) (hp : Lt p) (hc : chk fs = 0) :
    Calls Tryz.prog 37 #[.agg #[u], .string (st p)] w fun e w' => e = .returned (.tuple #[.int .i64 (pos fs p : Nat), .bool (hasP fs p)]) ∧ Kp w w' := by
  obtain ⟨ao, cap, rfl, hcap, -, -⟩ := hr.open3
  obtain ⟨n, hn⟩ : ∃ n, n = fs.length := ⟨_, rfl⟩
  rw [← hn] at hr hcap ⊢
  have hcp : (n : Int) ≤ (cap : Int) := by omega
  obtain ⟨rb, hrb⟩ : ∃ rb, rb = w.heap.size := ⟨_, rfl⟩
  obtain ⟨pb, hpb⟩ : ∃ pb, pb = w.heap.size + 1 := ⟨_, rfl⟩
  obtain ⟨Wa, hWa⟩ : ∃ W, W = w.alloc (.cells #[.slice ao n cap] 28) := ⟨_, rfl⟩
  obtain ⟨W0, hW0⟩ : ∃ W, W = Wa.alloc (.cells #[.string (st p)] 9) := ⟨_, rfl⟩
  have hz : Wa.heap.size = w.heap.size + 1 := by rw [hWa]; simp
  have k1 : Kp w Wa := by rw [hWa]; exact kp_alloc w _
  have k2 : Kp Wa W0 := by rw [hW0]; exact kp_alloc Wa _
  have HK0 : Hid (Kp w W0) := Lib.hid (Kp.trans k1 k2)
  have B1 : Hid (Blk W0 rb 28 #[.slice ao n cap]) := Lib.hid (by
    have : Blk Wa w.heap.size 28 #[.slice ao n cap] := by rw [hWa]; exact Blk.new _ _ _
    rw [hrb]
    exact this.keep k2)
  have B2 : Hid (Blk W0 pb 9 #[.string (st p)]) := Lib.hid (by rw [hW0, hpb, ← hz]; exact Blk.new _ _ _)
  have HW0 : Hid (W0 = (w.alloc (.cells #[.slice ao n cap] 28)).alloc (.cells #[.string (st p)] 9)) := Lib.hid (by rw [hW0, hWa])
  have hn64 : n ≤ 64 := by rw [hn]; exact (chk_ok hc).1
  have HRW := Lib.hid (hr.keep HK0.out)
  have hq : pos fs p ≤ n := by rw [hn]; exact pos_le fs p
  have HSE := Lib.hid (Search_any (w := W0) (rb := rb) (pb := pb) (n := n) (q := pos fs p) (by omega) hq (by
    intro k m hk
    obtain ⟨f, hf⟩ : ∃ f, fs[k]? = some f := ⟨_, List.getElem?_eq_getElem (by omega)⟩
    rw [← pos_le_iff hc hf]
    exact placeF_any (HRW.out.keep (Kp.drewN _ _)) hp k hk (B1.out.cell 0 rfl) (B2.out.cell 0 rfl) hf))
  have HN := Lib.hid hn
  have HRB := Lib.hid hrb; have HPB := Lib.hid hpb
  obtain ⟨q, hqq⟩ : ∃ q, q = pos fs p := ⟨_, rfl⟩
  have hhas : hasP fs p = match fs[q]? with | some f => decide (f.1 = p) | none => false := by rw [hqq]; rfl
  rw [← hqq] at HSE hq ⊢
  have HHAS := Lib.hid hhas; have HLP := Lib.hid hp
  obtain ⟨P, hP⟩ : ∃ P, P = st p := ⟨_, rfl⟩
  have HPP := Lib.hid hP
  rw [← hP] at HW0 B2 ⊢
  clear hr hcap hn hrb hpb hWa hW0 hz k1 k2 hc hqq hhas hP hp
  obtain ⟨D, hD⟩ : ∃ D, D = hasP fs p := ⟨_, rfl⟩
  rw [← hD] at HHAS ⊢
  clear hD
  by_cases hqn : q < n
  · obtain ⟨f, hf⟩ : ∃ f, fs[q]? = some f := ⟨_, List.getElem?_eq_getElem (by have := HN.out; omega)⟩
    have HD1 : Hid (D = decide (f.1 = p)) := Lib.hid (by rw [HHAS.out, hf])
    have hlt := HRW.out.lt f (List.mem_of_getElem? hf)
    have hq1 := st_inj' hlt.1 HLP.out
    rw [← HPP.out, ← HD1.out] at hq1
    have HX : Hid (∀ W, Drawn W0 W → ∃ b off, ao = some ⟨b, off, none⟩ ∧ W.cell? ⟨b, off + q * 2, none⟩ = some (.string (st f.1)) ∧ W.cell? ⟨rb, 0, none⟩ = some (.slice ao n cap) ∧ W.cell? ⟨pb, 0, none⟩ = some (.string P)) := Lib.hid (fun W hd => by
      obtain ⟨b, off, e, hcell⟩ := (HRW.out.keep hd.kp).cell (by omega)
      exact ⟨b, off, e, (hcell q f hf).1, (B1.out.keep hd.kp).cell 0 rfl, (B2.out.keep hd.kp).cell 0 rfl⟩)
    obtain ⟨S, hS⟩ : ∃ S, S = st f.1 := ⟨_, rfl⟩
    rw [← hS] at hq1 HX
    have hqi : (q : Int) < (n : Int) := by omega
    clear hf hlt hS hqn hq
    cases D with
    | true =>
      go_enter Tryz.func37, Tryz.ntmps37
      go_wp2_with fail
      rw [← HW0.out, ← HPB.out, ← HRB.out]
      refine HSE.out.mono ?_
      rintro e w2 ⟨rfl, hd⟩
      obtain ⟨b, off, rfl, c0, c1, c2⟩ := HX.out w2 hd
      have HK2 := Lib.hid (Kp.trans HK0.out hd.kp)
      clear hd
      go_wp2_with fail
      go_quiet (fail)
      go_wp2_with fail
      go_ret2
      exact ⟨rfl, Kp.trans HK2.out (Kp.drewN _ _)⟩
    | false =>
      go_enter Tryz.func37, Tryz.ntmps37
      go_wp2_with fail
      rw [← HW0.out, ← HPB.out, ← HRB.out]
      refine HSE.out.mono ?_
      rintro e w2 ⟨rfl, hd⟩
      obtain ⟨b, off, rfl, c0, c1, c2⟩ := HX.out w2 hd
      have HK2 := Lib.hid (Kp.trans HK0.out hd.kp)
      clear hd
      go_wp2_with fail
      go_quiet (fail)
      go_wp2_with fail
      go_ret2
      exact ⟨rfl, Kp.trans HK2.out (Kp.drewN _ _)⟩
  · obtain rfl : q = n := by omega
    have hD0 : D = false := by rw [HHAS.out, List.getElem?_eq_none (by have := HN.out; omega)]
    subst hD0
    clear hqn hq
    go_enter Tryz.func37, Tryz.ntmps37
    go_wp2_with fail
    rw [← HW0.out, ← HPB.out, ← HRB.out]
    refine HSE.out.mono ?_
    rintro e w2 ⟨rfl, hd⟩
    have c1 := (B1.out.keep hd.kp).cell 0 rfl
    have c2 := (B2.out.keep hd.kp).cell 0 rfl
    have HK2 := Lib.hid (Kp.trans HK0.out hd.kp)
    clear hd
    go_wp2_with fail
    go_quiet (fail)
    go_wp2_with fail
    go_ret2
    exact ⟨rfl, Kp.trans HK2.out (Kp.drewN _ _)⟩
end By
end Go.Proofs.YtmkijkaabcgcbaaGreatDoor
