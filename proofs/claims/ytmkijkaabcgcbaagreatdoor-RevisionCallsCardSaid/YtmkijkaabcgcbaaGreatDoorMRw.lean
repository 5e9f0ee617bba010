/- The reference's lists of files against places among sorted files. Plain mathematics. No condition. -/
import Derived.Test.YtmkijkaabcgcbaaGreatDoorMMz
import Derived.Test.YtmkijkaabcgcbaaGreatDoorMRx
import Derived.Test.YtmkijkaabcgcbaaGreatDoorMRc
import Derived.Test.YtmkijkaabcgcbaaGreatDoorMRl
namespace Go.Proofs.YtmkijkaabcgcbaaGreatDoor
namespace RevN
open WireN LexN
set_option linter.unusedVariables false
set_option linter.unusedSimpArgs false
theorem cut_at : ∀ {fs : List Fl} {q : List Nat}, chkL q fs = 0 → ∀ p : List Nat, ∃ A C, fs = A ++ C ∧ (∀ a ∈ A, lss a.1 p = true) ∧ ((∃ f B, C = f :: B ∧ f.1 = p ∧ ∀ b ∈ B, lss p b.1 = true) ∨ (∀ c ∈ C, lss p c.1 = true))
  | [], q, h, p => ⟨[], [], rfl, fun a ha => by simp at ha, .inr (fun c hc => by simp at hc)⟩
  | f :: fs, q, h, p => by
    obtain ⟨h1, h2⟩ := chkL_tail h
    by_cases hl : lss f.1 p = true
    · obtain ⟨A, C, e, ha, hc⟩ := cut_at h1 p
      refine ⟨f :: A, C, by rw [e]; rfl, fun a hm => ?_, hc⟩
      rcases List.mem_cons.1 hm with rfl | hm
      · exact hl
      · exact ha a hm
    · have hgt := chkL_gt h1
      by_cases he : f.1 = p
      · exact ⟨[], f :: fs, rfl, fun a ha => by simp at ha, .inl ⟨f, fs, rfl, he, fun b hb => by rw [← he]; exact hgt b hb⟩⟩
      · have hpf : lss p f.1 = true := lss_total (by simpa using hl) he
        refine ⟨[], f :: fs, rfl, fun a ha => by simp at ha, .inr (fun c hc => ?_)⟩
        rcases List.mem_cons.1 hc with rfl | hc
        · exact hpf
        · exact lss_trans hpf (hgt c hc)
theorem woL_id {p : List Nat} {fs : List Fl} (h : ∀ f ∈ fs, f.1 ≠ p) : woL p fs = fs := by
  unfold woL
  exact List.filter_eq_self.2 (fun f hf => by simp [h f hf])
theorem woL_mid {p : List Nat} {A B : List Fl} {f : Fl} (he : f.1 = p) (ha : ∀ a ∈ A, lss a.1 p = true) (hb : ∀ b ∈ B, lss p b.1 = true) : woL p (A ++ f :: B) = A ++ B := by
  have h1 := woL_id (p := p) (fs := A) (fun a h => lss_ne (ha a h))
  have h2 := woL_id (p := p) (fs := B) (fun b h e => lss_ne (hb b h) e.symm)
  unfold woL at h1 h2 ⊢
  rw [List.filter_append, List.filter_cons, h1, h2]
  simp [he]
def wi2 (x : Fl) : List Fl → List Fl
  | [] => [x]
  | f :: fs => if lss x.1 f.1 = true then x :: f :: fs else f :: wi2 x fs
theorem wiP_true (x : Fl) : ∀ (fs out : List Fl), fs.foldl (wiS x) (true, out) = (true, out ++ fs)
  | [], out => by simp
  | f :: fs, out => by
    rw [List.foldl_cons]
    have h : wiS x (true, out) f = (true, out ++ [f]) := by simp [wiS]
    rw [h, wiP_true x fs]
    simp
theorem wiP_false (x : Fl) : ∀ (fs out : List Fl), (if (fs.foldl (wiS x) (false, out)).1 = true then (fs.foldl (wiS x) (false, out)).2 else (fs.foldl (wiS x) (false, out)).2 ++ [x]) = out ++ wi2 x fs
  | [], out => by simp [wi2]
  | f :: fs, out => by
    rw [List.foldl_cons]
    cases hl : lss x.1 f.1 with
    | true =>
      have h : wiS x (false, out) f = (true, out ++ [x] ++ [f]) := by simp [wiS, hl]
      rw [h, wiP_true]
      unfold wi2
      rw [if_pos hl]
      simp
    | false =>
      have h : wiS x (false, out) f = (false, out ++ [f]) := by simp [wiS, hl]
      rw [h, wiP_false x fs]
      unfold wi2
      rw [if_neg (by rw [hl]; simp)]
      cases fs <;> simp [wi2]
theorem wi2_mid (x : Fl) : ∀ (A B : List Fl), (∀ a ∈ A, lss a.1 x.1 = true) → (∀ b ∈ B, lss x.1 b.1 = true) → wi2 x (A ++ B) = A ++ x :: B
  | [], [], _, _ => rfl
  | [], b :: B, _, hb => by
    have := hb b (List.mem_cons_self ..)
    simp [wi2, this]
  | a :: A, B, ha, hb => by
    have h1 := lss_asymm (ha a (List.mem_cons_self ..))
    have h2 := wi2_mid x A B (fun y hy => ha y (List.mem_cons_of_mem _ hy)) hb
    simp [wi2, h1, h2]
theorem wiL_mid {x : Fl} {A B : List Fl} (ha : ∀ a ∈ A, lss a.1 x.1 = true) (hb : ∀ b ∈ B, lss x.1 b.1 = true) : wiL (A ++ B) x = A ++ x :: B := by
  have h := wiP_false x (A ++ B) []
  rw [List.nil_append, wi2_mid x A B ha hb] at h
  exact h
theorem put_mid {A B : List Fl} {f : Fl} (b : List Nat) (ha : ∀ a ∈ A, lss a.1 f.1 = true) : putL (A ++ f :: B) (f.1, b) = A ++ (f.1, b) :: B := by
  unfold putL
  rw [has_mid ha, pos_split A (f :: B) f.1 ha (fun x hx => by simp at hx; subst hx; exact lss_self _)]
  simp
theorem rput_eq {fs : List Fl} (h : chk fs = 0) (p b : List Nat) : wiL (woL p fs) (p, b) = putL fs (p, b) := by
  obtain ⟨A, C, rfl, ha, hc⟩ := cut_at (chk_ok h).2 p
  rcases hc with ⟨f, B, rfl, rfl, hb⟩ | hc
  · rw [woL_mid rfl ha hb, put_mid b ha]
    exact wiL_mid (x := (f.1, b)) ha hb
  · rw [woL_id (fun x hx => by
      rcases List.mem_append.1 hx with hx | hx
      · exact lss_ne (ha x hx)
      · exact fun e => lss_ne (hc x hx) e.symm), put_not ha (fun x hx => hc x (List.mem_of_mem_head? hx))]
    exact wiL_mid (x := (p, b)) ha hc
theorem has_iff {fs : List Fl} (h : chk fs = 0) (p : List Nat) : hasP fs p = true ↔ ∃ f ∈ fs, f.1 = p := by
  obtain ⟨A, C, rfl, ha, hc⟩ := cut_at (chk_ok h).2 p
  rcases hc with ⟨f, B, rfl, rfl, hb⟩ | hc
  · exact ⟨fun _ => ⟨f, by simp, rfl⟩, fun _ => has_mid ha⟩
  · rw [has_not ha (fun x hx => hc x (List.mem_of_mem_head? hx))]
    refine ⟨fun e => Bool.noConfusion e, fun hx => ?_⟩
    obtain ⟨f, hf, e⟩ := hx
    rcases List.mem_append.1 hf with hf | hf
    · exact absurd e (lss_ne (ha f hf))
    · exact absurd e.symm (lss_ne (hc f hf))
theorem rrem_eq {fs : List Fl} (h : chk fs = 0) {p : List Nat} (hp : hasP fs p = true) : woL p fs = remL fs p := by
  obtain ⟨A, C, rfl, ha, hc⟩ := cut_at (chk_ok h).2 p
  rcases hc with ⟨f, B, rfl, rfl, hb⟩ | hc
  · rw [woL_mid rfl ha hb, rem_mid ha]
  · rw [has_not ha (fun x hx => hc x (List.mem_of_mem_head? hx))] at hp
    cases hp
theorem rmov_eq {fs : List Fl} (h : chk fs = 0) {p q : List Nat} (hq : pathB q = true) (h1 : hasP fs p = true) (h2 : hasP fs q = false) : movF fs p q = (0, wiL (woL p fs) (q, bytesAt fs p)) := by
  have hok := chk_ok h
  have hw := rrem_eq h h1
  have h2' : ∀ f ∈ fs, f.1 ≠ q := fun f hf e => by
    rw [(has_iff h q).2 ⟨f, hf, e⟩] at h2
    cases h2
  have hm : movF fs p q = putF (remL fs p) q (bytesAt fs p) := by
    unfold movF
    rw [if_neg (by rw [h]; simp), if_neg (by rw [hq]; simp), if_neg (by rw [h1]; simp), if_neg (by rw [h2]; simp)]
  rw [hm, hw]
  obtain ⟨A, C, rfl, ha, hc⟩ := cut_at hok.2 p
  rcases hc with ⟨f, B, rfl, rfl, hb⟩ | hc
  · obtain ⟨-, -, h3, h4, h5, h6⟩ := chkL_split hok.2
    rw [rem_mid ha, bytes_mid ha]
    have hl := hok.1
    have hc2 : chk (A ++ B) = 0 := by
      unfold chk
      rw [if_neg (by simp at hl ⊢; omega)]
      exact h3
    have hno : ∀ x ∈ A ++ B, x.1 ≠ q := fun x hx => h2' x (by rcases List.mem_append.1 hx with hx | hx <;> simp [hx])
    have he := rput_eq hc2 q f.2
    rw [woL_id hno] at he
    have hpl : (putL (A ++ B) (q, f.2)).length ≤ 64 := by
      rw [← he]
      obtain ⟨A', C', e, ha', hc'⟩ := cut_at h3 q
      rw [e]
      rcases hc' with ⟨g, B', rfl, rfl, hb'⟩ | hc'
      · exact absurd rfl (hno g (by rw [e]; simp))
      · rw [wiL_mid (x := (q, f.2)) ha' hc']
        have hl2 := congrArg List.length e
        simp at hl hl2 ⊢
        omega
    unfold putF
    rw [if_neg (by rw [hc2]; simp), if_neg (by rw [hq]; simp), if_neg (by omega), he]
  · rw [has_not ha (fun x hx => hc x (List.mem_of_mem_head? hx))] at h1
    cases h1
theorem find_at {fs : List Fl} (h : chk fs = 0) {k : Nat} {f : Fl} (hf : fs[k]? = some f) {p : List Nat} (he : f.1 = p) : findF fs p = (f.2, true) := by
  subst he
  obtain ⟨hk, e⟩ := List.getElem?_eq_some_iff.1 hf
  have hs : fs = fs.take k ++ f :: fs.drop (k + 1) := by rw [← e, ← List.drop_eq_getElem_cons hk, List.take_append_drop]
  have hc := (chk_ok h).2
  rw [hs] at hc
  obtain ⟨ha, -⟩ := chkL_split hc
  unfold findF
  rw [if_neg (by rw [h]; simp)]
  rw [hs, if_neg (by rw [has_mid ha]; simp), bytes_mid ha]
theorem find_not {fs : List Fl} (h : chk fs = 0) {p : List Nat} (hn : ∀ (k : Nat) (f : Fl), fs[k]? = some f → f.1 ≠ p) : findF fs p = ([], false) := by
  unfold findF
  rw [if_neg (by rw [h]; simp)]
  have : hasP fs p = false := by
    cases hh : hasP fs p with
    | false => rfl
    | true =>
      obtain ⟨f, hf, e⟩ := (has_iff h p).1 hh
      obtain ⟨k, hk⟩ := List.getElem?_of_mem hf
      exact absurd e (hn k f hk)
  rw [if_pos this]
end RevN
end Go.Proofs.YtmkijkaabcgcbaaGreatDoor

/- The reference's Find, IsSource, Put, Remove and Move. Condition: the slices read as the files that are named. -/
namespace Go.Proofs.YtmkijkaabcgcbaaGreatDoor
namespace By
open Go.RowKit WireN LexN RevN
set_option linter.unusedVariables false
set_option linter.unusedSimpArgs false

theorem find_snd {fs : List Fl} (h : chk fs = 0) (p : List Nat) : (findF fs p).2 = hasP fs p := by
  unfold findF
  rw [if_neg (by rw [h]; simp)]
  cases hasP fs p <;> simp
theorem find_fst {fs : List Fl} (h : chk fs = 0) {p : List Nat} (hp : hasP fs p = true) : (findF fs p).1 = bytesAt fs p := by
  unfold findF
  rw [if_neg (by rw [h]; simp), if_neg (by rw [hp]; simp)]
set_option maxRecDepth 100000 in
set_option maxHeartbeats 4000000 in
theorem rFind_any {u : Value} {fs : List Fl} {p : List Nat} {w : World} (hr : Rw w u fs) (hp : Lt p) :
    Calls Tryz.prog 14 #[.agg #[u], .string (st p)] w fun e w' => e = .returned (.tuple #[.string (st (findF fs p).1), .bool (findF fs p).2]) ∧ Kp w w' := by
  obtain ⟨ao, cap, rfl, hcap, hmx, hno⟩ := hr.open3
  obtain ⟨n, hn⟩ : ∃ n, n = fs.length := ⟨_, rfl⟩
  rw [← hn] at hr hcap ⊢
  obtain ⟨W0, hW0⟩ : ∃ W, W = w.alloc (.cells #[.slice ao n cap] 28) := ⟨_, rfl⟩
  obtain ⟨xb, hxb⟩ : ∃ xb, xb = w.heap.size := ⟨_, rfl⟩
  have HK0 : Hid (Kp w W0) := Lib.hid (by rw [hW0]; exact kp_alloc w _)
  have XB0 : Hid (Blk W0 xb 28 #[.slice ao n cap]) := Lib.hid (by rw [hW0, hxb]; exact Blk.new w _ _)
  have HR0 := Lib.hid (hr.keep HK0.out)
  have HC := Lib.hid (rCheck_any HR0.out)
  have HW0 := Lib.hid hW0; have HXB := Lib.hid hxb
  have HN := Lib.hid hn; have HP := Lib.hid hp
  have hcp : (n : Int) ≤ (cap : Int) := by omega
  have x0 := XB0.out.cell 0 rfl
  rw [hW0] at x0
  obtain ⟨R, hR⟩ : ∃ R, R = findF fs p := ⟨_, rfl⟩
  rw [← hR]
  have HRR := Lib.hid hR
  obtain ⟨er, her⟩ : ∃ er, er = chk fs := ⟨_, rfl⟩
  rw [← her] at HC
  have HER := Lib.hid her
  obtain ⟨P, hP⟩ : ∃ P, P = st p := ⟨_, rfl⟩
  rw [← hP]
  have HPP := Lib.hid hP
  clear hr hp hn hcap hmx hno hxb hW0 her hR hP
  go_enter Tryz.func14, Tryz.ntmps14
  go_wp2_with fail
  rw [← HW0.out, ← HXB.out]
  clear x0
  refine HC.out.mono ?_
  rintro e w1 ⟨rfl, hk1⟩
  have HK1 := Lib.hid hk1
  have x0 := (XB0.out.keep hk1).cell 0 rfl
  clear hk1
  by_cases he : er = 0
  · subst he
    have HOK : Hid (chk fs = 0) := Lib.hid HER.out.symm
    have hn64 : n ≤ 64 := by rw [HN.out]; exact (chk_ok HOK.out).1
    have hni : (n : Int) ≤ 64 := by omega
    clear hn64
    go_wp2_with fail
    go_loopw [14] (fun i wr => ∃ k : Nat, i = .int .i64 k ∧ k ≤ n ∧ (∀ (j : Nat) (f : Fl), j < k → fs[j]? = some f → f.1 ≠ p) ∧ Kp W0 wr) (fun i _ => n - (intOf i).toNat)
    case atStart => exact ⟨0, rfl, Nat.zero_le _, fun j f hj => by omega, HK1.out⟩
    case round =>
      obtain ⟨k, rfl, hk, hno, hkp⟩ := hrel
      rename World => wx
      have HNO := Lib.hid hno; have HKP := Lib.hid hkp
      clear hno hkp
      by_cases hkn : k < n
      · obtain ⟨f, hf⟩ : ∃ f, fs[k]? = some f := ⟨_, List.getElem?_eq_getElem (by have := HN.out; omega)⟩
        obtain ⟨b, off, hao, hc⟩ := (HR0.out.keep HKP.out).cell (by omega)
        obtain ⟨c0, c1⟩ := hc k f hf
        subst hao
        have hq := st_inj' (HR0.out.lt f (List.mem_of_getElem? hf)).1 HP.out
        rw [← HPP.out] at hq
        obtain ⟨eq, heq⟩ : ∃ e, e = decide (f.1 = p) := ⟨_, rfl⟩
        rw [← heq] at hq
        obtain ⟨T1, hT1⟩ : ∃ S, S = st f.1 := ⟨_, rfl⟩
        obtain ⟨T2, hT2⟩ : ∃ S, S = st f.2 := ⟨_, rfl⟩
        rw [← hT1] at c0 hq
        rw [← hT2] at c1
        have hki : (k : Int) < (n : Int) := by omega
        have HF := Lib.hid hf; have HEQ := Lib.hid heq; have HT2 := Lib.hid hT2
        obtain ⟨WA, hWA⟩ : ∃ W, W = wx.alloc (.cells #[.string T1, .string T2] 55) := ⟨_, rfl⟩
        have HKA : Hid (Kp W0 WA) := Lib.hid (by rw [hWA]; exact Kp.trans HKP.out (kp_alloc wx _))
        have HWA := Lib.hid hWA
        have XA : Blk WA wx.heap.size 55 #[.string T1, .string T2] := by rw [hWA]; exact Blk.new _ _ _
        have a0 := XA.cell 0 rfl; have a1 := XA.cell 1 rfl
        rw [hWA] at a0 a1
        clear hf heq hT1 hT2 hc hWA XA
        cases eq with
        | true =>
          obtain rfl : R = (f.2, true) := by rw [HRR.out]; exact find_at HOK.out HF.out (of_decide_eq_true HEQ.out.symm)
          go_wp2_with fail
          rw [← HWA.out]
          go_ret2
          exact ⟨by rw [HT2.out]; rfl, Kp.trans HK0.out HKA.out⟩
        | false =>
          go_wp2_with fail
          rw [← HWA.out]
          go_roundw
          case rel =>
            refine ⟨k + 1, by go_num, by omega, fun j g hj hg => ?_, HKA.out⟩
            by_cases hjk : j = k
            · subst hjk
              rw [HF.out] at hg
              obtain rfl := Option.some.inj hg
              exact of_decide_eq_false HEQ.out.symm
            · exact HNO.out j g (by omega) hg
          case measure => simp [intOf]; omega
      · obtain rfl : R = ([], false) := by
          rw [HRR.out]
          exact find_not HOK.out (fun j g hg => HNO.out j g (by have := (List.getElem?_eq_some_iff.1 hg).1; have := HN.out; omega) hg)
        have hki : (n : Int) ≤ (k : Int) := by omega
        go_wp2_with fail
        go_ret2
        exact ⟨rfl, Kp.trans HK0.out HKP.out⟩
  · have hx1 : ((er : Int) == 0) = false := beq_eq_false_iff_ne.2 (by omega)
    have hx2 : ((er : Int) != 0) = true := by rw [bne_iff_ne]; omega
    obtain rfl : R = ([], false) := by rw [HRR.out]; unfold findF; rw [if_pos (by rw [← HER.out]; exact he)]
    clear he
    go_wp2_with fail
    go_ret2
    exact ⟨rfl, Kp.trans HK0.out HK1.out⟩
set_option maxRecDepth 100000 in
set_option maxHeartbeats 4000000 in
theorem rIsSource_any {p : List Nat} {w : World} (hp : Lt p) :
    Calls Tryz.prog 16 #[.string (st p)] w fun e w' => e = .returned (.bool (srcB p)) ∧ w = w' := by
  have HPC := Lib.hid (rPathA hp w)
  obtain ⟨n, hn⟩ : ∃ n, n = p.length := ⟨_, rfl⟩
  have qs : ∀ w, (Builtin.len_ #[9] 3 #[.string (st p)]).run Tryz.prog w = .ok (goInt n) w := fun w => by rw [hn]; exact len w
  obtain ⟨pb, hpb⟩ : ∃ b, b = pathB p := ⟨_, rfl⟩
  have hsrc : srcB p = (pb && (decide (4 < n) && decide (p.drop (n - 4) = [46, 115, 114, 99]))) := by rw [hpb, hn]; rfl
  rw [← hpb] at HPC
  rw [hsrc]
  have hn80 : pb = true → n ≤ 80 := fun h => by rw [hn]; exact path_len (by rw [← hpb]; exact h)
  obtain ⟨P, hP⟩ : ∃ P, P = st p := ⟨_, rfl⟩
  cases pb with
  | false =>
    rw [← hP] at HPC ⊢
    clear hn qs hpb hsrc hn80 hP hp
    go_enter Tryz.func16, Tryz.ntmps16
    go_wp2_with fail
    refine HPC.out.mono ?_
    rintro e w' ⟨rfl, rfl⟩
    go_wp2_with fail
    go_ret
    exact ⟨rfl, rfl⟩
  | true =>
    have h80 := hn80 rfl
    by_cases h4 : 4 < n
    · rw [decide_eq_true h4]
      obtain ⟨m, hm⟩ : ∃ m, m = n - 4 := ⟨_, rfl⟩
      rw [← hm]
      have hcf : ∀ w, (Instr.slice 9 (.string (st p)) (some (.int .i64 (m : Int))) none none).run Tryz.prog w = .ok (.string (st (p.drop m))) w := fun w => cut_from (by omega) w
      have e1 : (n : Int) - 4 = (m : Int) := by omega
      have e2 : IntKind.i64.wrap (m : Int) = (m : Int) := by rw [IntKind.wrap_i64]; omega
      have hq := st_inj' (hp.drop m) (ys := [46, 115, 114, 99]) (lt_dec (by decide +kernel))
      rw [← st_src] at hq
      have ec : (⟨#[46, 115, 114, 99]⟩ : ByteArray).toList = [46, 115, 114, 99] := by rw [ByteArray.toList_eq]
      rw [ec] at hq
      obtain ⟨d, hd⟩ : ∃ d, d = decide (p.drop m = [46, 115, 114, 99]) := ⟨_, rfl⟩
      rw [← hd] at hq
      rw [← hd]
      obtain ⟨D, hD⟩ : ∃ D, D = st (p.drop m) := ⟨_, rfl⟩
      rw [← hD] at hq hcf
      have i1 : (4 : Int) < (n : Int) := by omega
      have i2 : (n : Int) ≤ 80 := by omega
      rw [← hP] at HPC qs hcf ⊢
      clear hn hpb hsrc hn80 hP hp hm hd hD h80 h4
      go_enter Tryz.func16, Tryz.ntmps16
      go_wp2_with fail
      refine HPC.out.mono ?_
      rintro e w' ⟨rfl, rfl⟩
      cases d <;>
      · go_wp2_with fail
        go_ret
        exact ⟨rfl, rfl⟩
    · rw [decide_eq_false h4]
      have i1 : (n : Int) ≤ (4 : Int) := by omega
      rw [← hP] at HPC qs ⊢
      clear hn hpb hsrc hn80 hP hp h80 h4
      go_enter Tryz.func16, Tryz.ntmps16
      go_wp2_with fail
      refine HPC.out.mono ?_
      rintro e w' ⟨rfl, rfl⟩
      go_wp2_with fail
      go_ret
      exact ⟨rfl, rfl⟩
set_option maxRecDepth 100000 in
set_option maxHeartbeats 8000000 in
theorem rPut_any {u : Value} {fs : List Fl} {p b : List Nat} {w : World} (hr : Rw w u fs) (hp : Lt p) (hb : Lt b) (hbm : b.length ≤ maxLen) :
    Calls Tryz.prog 18 #[.agg #[u], .string (st p), .string (st b)] w (RevR w (putF fs p b)) := by
  obtain ⟨ao, cap, rfl, hcap, hmx, hno⟩ := hr.open3
  obtain ⟨n, hn⟩ : ∃ n, n = fs.length := ⟨_, rfl⟩
  rw [← hn] at hr hcap ⊢
  obtain ⟨Q, hQ⟩ : ∃ Q, Q = RevR w (putF fs p b) := ⟨_, rfl⟩
  rw [← hQ]
  obtain ⟨xb, hxb⟩ : ∃ xb, xb = w.heap.size := ⟨_, rfl⟩
  obtain ⟨rb, hrb⟩ : ∃ rb, rb = w.heap.size + 1 := ⟨_, rfl⟩
  obtain ⟨Wa, hWa⟩ : ∃ W, W = w.alloc (.cells #[.slice ao n cap] 28) := ⟨_, rfl⟩
  obtain ⟨W0, hW0⟩ : ∃ W, W = Wa.alloc (.cells #[.slice none 0 0] 28) := ⟨_, rfl⟩
  have hz : Wa.heap.size = w.heap.size + 1 := by rw [hWa]; simp
  have k1 : Kp w Wa := by rw [hWa]; exact kp_alloc w _
  have k2 : Kp Wa W0 := by rw [hW0]; exact kp_alloc Wa _
  have HK0 : Hid (Kp w W0) := Lib.hid (Kp.trans k1 k2)
  have XB0 : Hid (Blk W0 xb 28 #[.slice ao n cap]) := Lib.hid (by
    have : Blk Wa w.heap.size 28 #[.slice ao n cap] := by rw [hWa]; exact Blk.new _ _ _
    rw [hxb]
    exact this.keep k2)
  have RB0 : Hid (Blk W0 rb 28 #[.slice none 0 0]) := Lib.hid (by rw [hW0, hrb, ← hz]; exact Blk.new _ _ _)
  have HW0 : Hid (W0 = (w.alloc (.cells #[.slice ao n cap] 28)).alloc (.cells #[.slice none 0 0] 28)) := Lib.hid (by rw [hW0, hWa])
  have HXB := Lib.hid hxb; have HRB := Lib.hid hrb
  have GR : Hid (w.heap.size ≤ rb) := Lib.hid (by omega)
  have HR0 := Lib.hid (hr.keep HK0.out)
  have HC := Lib.hid (rCheck_any HR0.out)
  have FIN : Hid (∀ (a : Act) (W X : World) (v : Value) (er : Nat) (gs : List Fl), a.defers = [] → a.tmps.getD 6 undef = .pointer (some ⟨rb, 0, none⟩) → a.tmps.getD 7 undef = .int .i64 (er : Nat) → Kp W0 X → W = X.setCell ⟨rb, 0, none⟩ v →
      putF fs p b = (er, gs) → (∀ W', Only rb X W' → Rw W' v gs) → (∀ b, v.ownBlock = some b → w.heap.size ≤ b) → bodyPost Tryz.prog Tryz.f18 Q .ret a W) := Lib.hid (by
    intro a W X v er gs h0 h2 h3 hk hW hd hv hnw
    have oW : Only rb X W := by rw [hW]; exact (Only.refl rb X).set 0 _
    have hbW : Blk W rb 28 #[v] := by rw [hW]; exact (RB0.out.keep hk).set 0 _
    have e0 := hbW.cell 0 rfl
    have h2' : a.tmps[6]?.getD undef = .pointer (some ⟨rb, 0, none⟩) := by simpa using h2
    have h3' : a.tmps[7]?.getD undef = .int .i64 (er : Nat) := by simpa using h3
    refine bodyPost_ret (v := .tuple #[.agg #[v], .int .i64 (er : Nat)]) (by simp [results, Tryz.results18, go_sem, h2', h3', e0]) h0 ?_
    rw [hQ]
    exact ⟨v, by rw [hd], by rw [hd]; exact hv W oW, hnw, Only.kp (Kp.trans HK0.out hk) oW GR.out⟩)
  have NIL : Hid (∀ (X W' : World), Only rb X W' → Rw W' (.slice none 0 0) []) := Lib.hid (fun _ W' _ => Rw.nil W')
  have HN := Lib.hid hn
  have hcp : (n : Int) ≤ (cap : Int) := by omega
  have x0 := XB0.out.cell 0 rfl
  rw [hW0, hWa] at x0
  obtain ⟨er, her⟩ : ∃ er, er = chk fs := ⟨_, rfl⟩
  rw [← her] at HC
  have HER := Lib.hid her
  have HP := Lib.hid hp; have HB := Lib.hid hb; have HBM := Lib.hid hbm
  clear hr hn hcap hmx hno hQ hxb hrb hWa hW0 hz k1 k2 her hp hb hbm
  go_enter Tryz.func18, Tryz.ntmps18
  go_wp2_with fail
  rw [← HW0.out, ← HRB.out, ← HXB.out]
  clear x0
  refine HC.out.mono ?_
  rintro e w1 ⟨rfl, hk1⟩
  have HK1 := Lib.hid hk1
  have xb1 := XB0.out.keep hk1
  have x0 := xb1.cell 0 rfl
  have rb1 := RB0.out.keep hk1
  have r0 := rb1.cell 0 rfl; have f0 := rb1.free 0
  clear hk1 xb1 rb1
  by_cases he : er = 0
  · subst he
    have HOK : Hid (chk fs = 0) := Lib.hid HER.out.symm
    have HL64 : Hid (fs.length ≤ 64) := Lib.hid (chk_ok HOK.out).1
    have HPC := Lib.hid (rPathA HP.out w1)
    have HD0 : Hid (putF fs p b = if pathB p = false then (6, []) else if 16384 < b.length ∨ 64 < (putL fs (p, b)).length then (2, []) else (0, putL fs (p, b))) := Lib.hid (by unfold putF; rw [if_neg (by rw [HOK.out]; simp)])
    obtain ⟨pbl, hpbl⟩ : ∃ x, x = pathB p := ⟨_, rfl⟩
    rw [← hpbl] at HPC HD0
    have HPB := Lib.hid hpbl
    obtain ⟨bl, hbl⟩ : ∃ bl, bl = b.length := ⟨_, rfl⟩
    have qs : ∀ w, (Builtin.len_ #[9] 3 #[.string (st b)]).run Tryz.prog w = .ok (goInt bl) w := fun w => by rw [hbl]; exact len w
    have CWO := Lib.hid (fun (W : World) (hk : Kp W0 W) => without_any (HR0.out.keep hk) HP.out (by have := HL64.out; omega))
    obtain ⟨P, hP⟩ : ∃ P, P = st p := ⟨_, rfl⟩
    obtain ⟨B, hBs⟩ : ∃ B, B = st b := ⟨_, rfl⟩
    have CWI : Hid (pathB p = true → ∀ (W : World) (v : Value), Rw W v (woL p fs) → Calls Tryz.prog 42 #[.agg #[v], .agg #[.string P, .string B]] W fun e w' => ∃ v, e = .returned (.agg #[v]) ∧ Rw w' v (putL fs (p, b)) ∧ (∀ b, v.ownBlock = some b → W.heap.size ≤ b) ∧ Kp W w') := Lib.hid (fun hpp W v hv => by
      have h := with_any (f := (p, b)) hv ⟨⟨HP.out, HB.out⟩, by have := path_len hpp; show p.length ≤ maxLen; unfold maxLen; omega, HBM.out⟩ (by
        have h1 : (woL p fs).length ≤ fs.length := List.length_filter_le _ _
        have := HL64.out
        omega)
      rw [rput_eq HOK.out, ← hP, ← hBs] at h
      exact h)
    rw [← hP] at HPC CWO ⊢
    rw [← hBs] at qs ⊢
    have HBL := Lib.hid hbl
    clear hpbl hP hBs hbl
    go_wp2_with fail
    refine HPC.out.mono ?_
    rintro e w' ⟨rfl, rfl⟩
    cases pbl with
    | false =>
      have HD : Hid (putF fs p b = (6, [])) := Lib.hid (by rw [HD0.out]; simp)
      go_wp2_with fail
      exact FIN.out _ _ w1 _ 6 [] rfl rfl rfl HK1.out rfl HD.out (NIL.out w1) (fun b hb => by simp [Value.ownBlock] at hb)
    | true =>
      have HD1 : Hid (putF fs p b = if 16384 < b.length ∨ 64 < (putL fs (p, b)).length then (2, []) else (0, putL fs (p, b))) := Lib.hid (by rw [HD0.out]; simp)
      go_wp2_with fail
      refine (CWO.out w1 HK1.out).mono ?_
      rintro e w2 ⟨v2, rfl, hr2, hn2, hk2⟩
      have HK2 := Lib.hid (Kp.trans HK1.out hk2); have HR2 := Lib.hid hr2
      obtain ⟨a2, l2, c2, hv2⟩ := hr2.form
      subst hv2
      clear hr2 hn2 hk2 x0 r0 f0
      go_wp2_with fail
      refine (CWI.out HPB.out.symm w2 _ HR2.out).mono ?_
      rintro e w3 ⟨v3, rfl, hr3, hn3, hk3⟩
      obtain ⟨a3, c3, hv3, hc3, -, -⟩ := hr3.open3
      obtain ⟨L, hL⟩ : ∃ L, L = (putL fs (p, b)).length := ⟨_, rfl⟩
      rw [← hL] at hv3 hc3
      subst hv3
      obtain ⟨yb, hyb⟩ : ∃ y, y = w3.heap.size := ⟨_, rfl⟩
      obtain ⟨W4, hW4⟩ : ∃ W, W = w3.alloc (.cells #[.slice a3 L c3] 28) := ⟨_, rfl⟩
      have k4 : Kp w3 W4 := by rw [hW4]; exact kp_alloc _ _
      have HK4 := Lib.hid (Kp.trans HK2.out (Kp.trans hk3 k4))
      have YB : Blk W4 yb 28 #[.slice a3 L c3] := by rw [hW4, hyb]; exact Blk.new _ _ _
      have HR4 := Lib.hid (hr3.keep k4)
      have HNW : Hid (∀ b, (Value.slice a3 L c3).ownBlock = some b → rb < b ∧ w.heap.size ≤ b) := Lib.hid (fun b hb => by have h1 := hn3 b hb; have h2 := (RB0.out.keep HK2.out).lt; have h3 := HK0.out.size; have h4 := HK2.out.size; omega)
      have y0 := YB.cell 0 rfl
      have rb4 := RB0.out.keep HK4.out
      have r0 := rb4.cell 0 rfl; have f0 := rb4.free 0
      have HW4 := Lib.hid hW4
      have hci : (L : Int) ≤ (c3 : Int) := by omega
      rw [hW4] at y0 r0 f0
      rw [hyb] at y0
      have HLL := Lib.hid hL
      clear hr3 hn3 hk3 hL hW4 hyb k4 YB rb4 hc3
      by_cases h1 : 16384 < bl
      · have i1 : (16384 : Int) < (bl : Int) := by omega
        have HD : Hid (putF fs p b = (2, [])) := Lib.hid (by rw [HD1.out, if_pos (.inl (by rw [← HBL.out]; exact h1))])
        clear h1
        go_wp2_with fail
        rw [← HW4.out]
        exact FIN.out _ _ W4 _ 2 [] rfl rfl rfl HK4.out rfl HD.out (NIL.out W4) (fun b hb => by simp [Value.ownBlock] at hb)
      · have i1 : (bl : Int) ≤ (16384 : Int) := by omega
        by_cases h2 : 64 < L
        · have i2 : (64 : Int) < (L : Int) := by omega
          have HD : Hid (putF fs p b = (2, [])) := Lib.hid (by rw [HD1.out, if_pos (.inr (by rw [← HLL.out]; exact h2))])
          clear h1 h2
          go_wp2_with fail
          rw [← HW4.out]
          exact FIN.out _ _ W4 _ 2 [] rfl rfl rfl HK4.out rfl HD.out (NIL.out W4) (fun b hb => by simp [Value.ownBlock] at hb)
        · have i2 : (L : Int) ≤ (64 : Int) := by omega
          have HD : Hid (putF fs p b = (0, putL fs (p, b))) := Lib.hid (by rw [HD1.out, if_neg (by rw [← HLL.out, ← HBL.out]; omega)])
          clear h1 h2
          go_wp2_with fail
          rw [← HW4.out]
          exact FIN.out _ _ W4 _ 0 _ rfl rfl rfl HK4.out rfl HD.out (fun W' ho => HR4.out.only ho (fun b hb e => by have := (HNW.out b hb).1; omega)) (fun b hb => (HNW.out b hb).2)
  · have hx1 : ((er : Int) == 0) = false := beq_eq_false_iff_ne.2 (by omega)
    have hx2 : ((er : Int) != 0) = true := by rw [bne_iff_ne]; omega
    have HD : Hid (putF fs p b = (er, [])) := Lib.hid (by unfold putF; rw [if_pos (by rw [← HER.out]; exact he), ← HER.out])
    clear he
    go_wp2_with fail
    exact FIN.out _ _ w1 _ er [] rfl rfl rfl HK1.out rfl HD.out (NIL.out w1) (fun b hb => by simp [Value.ownBlock] at hb)
set_option maxRecDepth 100000 in
set_option maxHeartbeats 8000000 in
theorem rRemove_any {u : Value} {fs : List Fl} {p : List Nat} {w : World} (hr : Rw w u fs) (hp : Lt p) :
    Calls Tryz.prog 20 #[.agg #[u], .string (st p)] w (RevR w (remF fs p)) := by
  obtain ⟨ao, cap, rfl, hcap, hmx, hno⟩ := hr.open3
  obtain ⟨n, hn⟩ : ∃ n, n = fs.length := ⟨_, rfl⟩
  rw [← hn] at hr hcap ⊢
  obtain ⟨Q, hQ⟩ : ∃ Q, Q = RevR w (remF fs p) := ⟨_, rfl⟩
  rw [← hQ]
  obtain ⟨xb, hxb⟩ : ∃ xb, xb = w.heap.size := ⟨_, rfl⟩
  obtain ⟨rb, hrb⟩ : ∃ rb, rb = w.heap.size + 1 := ⟨_, rfl⟩
  obtain ⟨Wa, hWa⟩ : ∃ W, W = w.alloc (.cells #[.slice ao n cap] 28) := ⟨_, rfl⟩
  obtain ⟨W0, hW0⟩ : ∃ W, W = Wa.alloc (.cells #[.slice none 0 0] 28) := ⟨_, rfl⟩
  have hz : Wa.heap.size = w.heap.size + 1 := by rw [hWa]; simp
  have k1 : Kp w Wa := by rw [hWa]; exact kp_alloc w _
  have k2 : Kp Wa W0 := by rw [hW0]; exact kp_alloc Wa _
  have HK0 : Hid (Kp w W0) := Lib.hid (Kp.trans k1 k2)
  have XB0 : Hid (Blk W0 xb 28 #[.slice ao n cap]) := Lib.hid (by
    have : Blk Wa w.heap.size 28 #[.slice ao n cap] := by rw [hWa]; exact Blk.new _ _ _
    rw [hxb]
    exact this.keep k2)
  have RB0 : Hid (Blk W0 rb 28 #[.slice none 0 0]) := Lib.hid (by rw [hW0, hrb, ← hz]; exact Blk.new _ _ _)
  have HW0 : Hid (W0 = (w.alloc (.cells #[.slice ao n cap] 28)).alloc (.cells #[.slice none 0 0] 28)) := Lib.hid (by rw [hW0, hWa])
  have HXB := Lib.hid hxb; have HRB := Lib.hid hrb
  have GR : Hid (w.heap.size ≤ rb) := Lib.hid (by omega)
  have HR0 := Lib.hid (hr.keep HK0.out)
  have HC := Lib.hid (rCheck_any HR0.out)
  have FIN : Hid (∀ (a : Act) (W X : World) (v : Value) (er : Nat) (gs : List Fl), a.defers = [] → a.tmps.getD 4 undef = .pointer (some ⟨rb, 0, none⟩) → a.tmps.getD 5 undef = .int .i64 (er : Nat) → Kp W0 X → W = X.setCell ⟨rb, 0, none⟩ v →
      remF fs p = (er, gs) → (∀ W', Only rb X W' → Rw W' v gs) → (∀ b, v.ownBlock = some b → w.heap.size ≤ b) → bodyPost Tryz.prog Tryz.f20 Q .ret a W) := Lib.hid (by
    intro a W X v er gs h0 h2 h3 hk hW hd hv hnw
    have oW : Only rb X W := by rw [hW]; exact (Only.refl rb X).set 0 _
    have hbW : Blk W rb 28 #[v] := by rw [hW]; exact (RB0.out.keep hk).set 0 _
    have e0 := hbW.cell 0 rfl
    have h2' : a.tmps[4]?.getD undef = .pointer (some ⟨rb, 0, none⟩) := by simpa using h2
    have h3' : a.tmps[5]?.getD undef = .int .i64 (er : Nat) := by simpa using h3
    refine bodyPost_ret (v := .tuple #[.agg #[v], .int .i64 (er : Nat)]) (by simp [results, Tryz.results20, go_sem, h2', h3', e0]) h0 ?_
    rw [hQ]
    exact ⟨v, by rw [hd], by rw [hd]; exact hv W oW, hnw, Only.kp (Kp.trans HK0.out hk) oW GR.out⟩)
  have NIL : Hid (∀ (X W' : World), Only rb X W' → Rw W' (.slice none 0 0) []) := Lib.hid (fun _ W' _ => Rw.nil W')
  have HN := Lib.hid hn
  have hcp : (n : Int) ≤ (cap : Int) := by omega
  have x0 := XB0.out.cell 0 rfl
  rw [hW0, hWa] at x0
  obtain ⟨er, her⟩ : ∃ er, er = chk fs := ⟨_, rfl⟩
  rw [← her] at HC
  have HER := Lib.hid her
  have HP := Lib.hid hp
  clear hr hn hcap hmx hno hQ hxb hrb hWa hW0 hz k1 k2 her hp
  go_enter Tryz.func20, Tryz.ntmps20
  go_wp2_with fail
  rw [← HW0.out, ← HRB.out, ← HXB.out]
  clear x0
  refine HC.out.mono ?_
  rintro e w1 ⟨rfl, hk1⟩
  have HK1 := Lib.hid hk1
  have xb1 := XB0.out.keep hk1
  have x0 := xb1.cell 0 rfl
  have rb1 := RB0.out.keep hk1
  have r0 := rb1.cell 0 rfl; have f0 := rb1.free 0
  clear hk1 xb1 rb1
  by_cases he : er = 0
  · subst he
    have HOK : Hid (chk fs = 0) := Lib.hid HER.out.symm
    have HL64 : Hid (fs.length ≤ 64) := Lib.hid (chk_ok HOK.out).1
    have HD0 : Hid (remF fs p = if hasP fs p = false then (18, []) else (0, remL fs p)) := Lib.hid (by unfold remF; rw [if_neg (by rw [HOK.out]; simp)])
    have CF := Lib.hid (rFind_any (HR0.out.keep HK1.out) HP.out)
    obtain ⟨hs, hhs⟩ : ∃ h, h = hasP fs p := ⟨_, rfl⟩
    rw [find_snd HOK.out, ← hhs] at CF
    rw [← hhs] at HD0
    have HHS := Lib.hid hhs
    have CWO := Lib.hid (fun (W : World) (hk : Kp W0 W) => without_any (HR0.out.keep hk) HP.out (by have := HL64.out; omega))
    obtain ⟨P, hP⟩ : ∃ P, P = st p := ⟨_, rfl⟩
    obtain ⟨FB, hFB⟩ : ∃ x, x = st (findF fs p).1 := ⟨_, rfl⟩
    rw [← hP] at CF CWO ⊢
    rw [← hFB] at CF
    clear hhs hP hFB
    go_wp2_with fail
    refine CF.out.mono ?_
    rintro e w2 ⟨rfl, hk2⟩
    have HK2 := Lib.hid (Kp.trans HK1.out hk2)
    have x0 := (XB0.out.keep HK2.out).cell 0 rfl
    have rb2 := RB0.out.keep HK2.out
    have r0 := rb2.cell 0 rfl; have f0 := rb2.free 0
    clear hk2 rb2
    cases hs with
    | false =>
      have HD : Hid (remF fs p = (18, [])) := Lib.hid (by rw [HD0.out]; simp)
      go_wp2_with fail
      exact FIN.out _ _ w2 _ 18 [] rfl rfl rfl HK2.out rfl HD.out (NIL.out w2) (fun b hb => by simp [Value.ownBlock] at hb)
    | true =>
      have HD : Hid (remF fs p = (0, woL p fs)) := Lib.hid (by rw [HD0.out, rrem_eq HOK.out HHS.out.symm]; simp)
      go_wp2_with fail
      refine (CWO.out w2 HK2.out).mono ?_
      rintro e w4 ⟨v4, rfl, hr4, hn4, hk4⟩
      have HK4 := Lib.hid (Kp.trans HK2.out hk4)
      obtain ⟨a4, l4, c4, hv4⟩ := hr4.form
      subst hv4
      have HR4 := Lib.hid hr4
      have HNW : Hid (∀ b, (Value.slice a4 l4 c4).ownBlock = some b → rb < b ∧ w.heap.size ≤ b) := Lib.hid (fun b hb => by have h1 := hn4 b hb; have h2 := (RB0.out.keep HK2.out).lt; have h3 := HK0.out.size; have h4 := HK2.out.size; omega)
      have rb4 := RB0.out.keep HK4.out
      have r0 := rb4.cell 0 rfl; have f0 := rb4.free 0
      clear hr4 hn4 hk4 rb4
      go_wp2_with fail
      exact FIN.out _ _ w4 _ 0 _ rfl rfl rfl HK4.out rfl HD.out (fun W' ho => HR4.out.only ho (fun b hb e => by have := (HNW.out b hb).1; omega)) (fun b hb => (HNW.out b hb).2)
  · have hx1 : ((er : Int) == 0) = false := beq_eq_false_iff_ne.2 (by omega)
    have hx2 : ((er : Int) != 0) = true := by rw [bne_iff_ne]; omega
    have HD : Hid (remF fs p = (er, [])) := Lib.hid (by unfold remF; rw [if_pos (by rw [← HER.out]; exact he), ← HER.out])
    clear he
    go_wp2_with fail
    exact FIN.out _ _ w1 _ er [] rfl rfl rfl HK1.out rfl HD.out (NIL.out w1) (fun b hb => by simp [Value.ownBlock] at hb)
set_option maxRecDepth 100000 in
set_option maxHeartbeats 8000000 in
theorem rMove_any {u : Value} {fs : List Fl} {p q : List Nat} {w : World} (hr : Rw w u fs) (hp : Lt p) (hq : Lt q) :
    Calls Tryz.prog 22 #[.agg #[u], .string (st p), .string (st q)] w (RevR w (movF fs p q)) := by
  obtain ⟨ao, cap, rfl, hcap, hmx, hno⟩ := hr.open3
  obtain ⟨n, hn⟩ : ∃ n, n = fs.length := ⟨_, rfl⟩
  rw [← hn] at hr hcap ⊢
  obtain ⟨Q, hQ⟩ : ∃ Q, Q = RevR w (movF fs p q) := ⟨_, rfl⟩
  rw [← hQ]
  obtain ⟨xb, hxb⟩ : ∃ xb, xb = w.heap.size := ⟨_, rfl⟩
  obtain ⟨rb, hrb⟩ : ∃ rb, rb = w.heap.size + 1 := ⟨_, rfl⟩
  obtain ⟨Wa, hWa⟩ : ∃ W, W = w.alloc (.cells #[.slice ao n cap] 28) := ⟨_, rfl⟩
  obtain ⟨W0, hW0⟩ : ∃ W, W = Wa.alloc (.cells #[.slice none 0 0] 28) := ⟨_, rfl⟩
  have hz : Wa.heap.size = w.heap.size + 1 := by rw [hWa]; simp
  have k1 : Kp w Wa := by rw [hWa]; exact kp_alloc w _
  have k2 : Kp Wa W0 := by rw [hW0]; exact kp_alloc Wa _
  have HK0 : Hid (Kp w W0) := Lib.hid (Kp.trans k1 k2)
  have XB0 : Hid (Blk W0 xb 28 #[.slice ao n cap]) := Lib.hid (by
    have : Blk Wa w.heap.size 28 #[.slice ao n cap] := by rw [hWa]; exact Blk.new _ _ _
    rw [hxb]
    exact this.keep k2)
  have RB0 : Hid (Blk W0 rb 28 #[.slice none 0 0]) := Lib.hid (by rw [hW0, hrb, ← hz]; exact Blk.new _ _ _)
  have HW0 : Hid (W0 = (w.alloc (.cells #[.slice ao n cap] 28)).alloc (.cells #[.slice none 0 0] 28)) := Lib.hid (by rw [hW0, hWa])
  have HXB := Lib.hid hxb; have HRB := Lib.hid hrb
  have GR : Hid (w.heap.size ≤ rb) := Lib.hid (by omega)
  have HR0 := Lib.hid (hr.keep HK0.out)
  have HC := Lib.hid (rCheck_any HR0.out)
  have FIN : Hid (∀ (a : Act) (W X : World) (v : Value) (er : Nat) (gs : List Fl), a.defers = [] → a.tmps.getD 6 undef = .pointer (some ⟨rb, 0, none⟩) → a.tmps.getD 7 undef = .int .i64 (er : Nat) → Kp W0 X → W = X.setCell ⟨rb, 0, none⟩ v →
      movF fs p q = (er, gs) → (∀ W', Only rb X W' → Rw W' v gs) → (∀ b, v.ownBlock = some b → w.heap.size ≤ b) → bodyPost Tryz.prog Tryz.f22 Q .ret a W) := Lib.hid (by
    intro a W X v er gs h0 h2 h3 hk hW hd hv hnw
    have oW : Only rb X W := by rw [hW]; exact (Only.refl rb X).set 0 _
    have hbW : Blk W rb 28 #[v] := by rw [hW]; exact (RB0.out.keep hk).set 0 _
    have e0 := hbW.cell 0 rfl
    have h2' : a.tmps[6]?.getD undef = .pointer (some ⟨rb, 0, none⟩) := by simpa using h2
    have h3' : a.tmps[7]?.getD undef = .int .i64 (er : Nat) := by simpa using h3
    refine bodyPost_ret (v := .tuple #[.agg #[v], .int .i64 (er : Nat)]) (by simp [results, Tryz.results22, go_sem, h2', h3', e0]) h0 ?_
    rw [hQ]
    exact ⟨v, by rw [hd], by rw [hd]; exact hv W oW, hnw, Only.kp (Kp.trans HK0.out hk) oW GR.out⟩)
  have NIL : Hid (∀ (X W' : World), Only rb X W' → Rw W' (.slice none 0 0) []) := Lib.hid (fun _ W' _ => Rw.nil W')
  have HN := Lib.hid hn
  have hcp : (n : Int) ≤ (cap : Int) := by omega
  have x0 := XB0.out.cell 0 rfl
  rw [hW0, hWa] at x0
  obtain ⟨er, her⟩ : ∃ er, er = chk fs := ⟨_, rfl⟩
  rw [← her] at HC
  have HER := Lib.hid her
  have HP := Lib.hid hp; have HQL := Lib.hid hq
  clear hr hn hcap hmx hno hQ hxb hrb hWa hW0 hz k1 k2 her hp hq
  go_enter Tryz.func22, Tryz.ntmps22
  go_wp2_with fail
  rw [← HW0.out, ← HRB.out, ← HXB.out]
  clear x0
  refine HC.out.mono ?_
  rintro e w1 ⟨rfl, hk1⟩
  have HK1 := Lib.hid hk1
  have xb1 := XB0.out.keep hk1
  have x0 := xb1.cell 0 rfl
  have rb1 := RB0.out.keep hk1
  have r0 := rb1.cell 0 rfl; have f0 := rb1.free 0
  clear hk1 xb1 rb1
  by_cases he : er = 0
  · subst he
    have HOK : Hid (chk fs = 0) := Lib.hid HER.out.symm
    have HL64 : Hid (fs.length ≤ 64) := Lib.hid (chk_ok HOK.out).1
    have HPC := Lib.hid (rPathA HQL.out w1)
    have HD0 : Hid (movF fs p q = if pathB q = false then (6, []) else if hasP fs p = false then (18, []) else if hasP fs q = true then (19, []) else putF (remL fs p) q (bytesAt fs p)) := Lib.hid (by unfold movF; rw [if_neg (by rw [HOK.out]; simp)])
    obtain ⟨pbl, hpbl⟩ : ∃ x, x = pathB q := ⟨_, rfl⟩
    rw [← hpbl] at HPC HD0
    have HPB := Lib.hid hpbl
    obtain ⟨hs, hhs⟩ : ∃ h, h = hasP fs p := ⟨_, rfl⟩
    obtain ⟨hs2, hhs2⟩ : ∃ h, h = hasP fs q := ⟨_, rfl⟩
    rw [← hhs, ← hhs2] at HD0
    have HHS := Lib.hid hhs; have HHS2 := Lib.hid hhs2
    obtain ⟨FB, hFB⟩ : ∃ x, x = st (findF fs p).1 := ⟨_, rfl⟩
    obtain ⟨FB2, hFB2⟩ : ∃ x, x = st (findF fs q).1 := ⟨_, rfl⟩
    obtain ⟨P, hP⟩ : ∃ P, P = st p := ⟨_, rfl⟩
    obtain ⟨QS, hQS⟩ : ∃ P, P = st q := ⟨_, rfl⟩
    have CF : Hid (∀ W, Kp W0 W → Calls Tryz.prog 14 #[.agg #[.slice ao n cap], .string P] W fun e w' => e = .returned (.tuple #[.string FB, .bool hs]) ∧ Kp W w') := Lib.hid (fun W hk => by
      have h := rFind_any (HR0.out.keep hk) HP.out
      rw [find_snd HOK.out, ← hhs, ← hFB, ← hP] at h
      exact h)
    have CF2 : Hid (∀ W, Kp W0 W → Calls Tryz.prog 14 #[.agg #[.slice ao n cap], .string QS] W fun e w' => e = .returned (.tuple #[.string FB2, .bool hs2]) ∧ Kp W w') := Lib.hid (fun W hk => by
      have h := rFind_any (HR0.out.keep hk) HQL.out
      rw [find_snd HOK.out, ← hhs2, ← hFB2, ← hQS] at h
      exact h)
    have CWO : Hid (∀ W, Kp W0 W → Calls Tryz.prog 43 #[.agg #[.slice ao n cap], .string P] W fun e w' => ∃ v, e = .returned (.agg #[v]) ∧ Rw w' v (woL p fs) ∧ (∀ b, v.ownBlock = some b → W.heap.size ≤ b) ∧ Kp W w') := Lib.hid (fun W hk => by
      have h := without_any (HR0.out.keep hk) HP.out (by have := HL64.out; omega)
      rw [← hP] at h
      exact h)
    have CWI : Hid (pathB q = true → hasP fs p = true → ∀ (W : World) (v : Value), Rw W v (woL p fs) → Calls Tryz.prog 42 #[.agg #[v], .agg #[.string QS, .string FB]] W fun e w' => ∃ v, e = .returned (.agg #[v]) ∧ Rw w' v (wiL (woL p fs) (q, bytesAt fs p)) ∧ (∀ b, v.ownBlock = some b → W.heap.size ≤ b) ∧ Kp W w') := Lib.hid (fun hpp hh W v hv => by
      obtain ⟨f, hf, hfp⟩ := hasP_some hh
      have hby : bytesAt fs p = f.2 := by unfold bytesAt; rw [hf]; rfl
      have hmem := List.mem_of_getElem? hf
      have hlt := HR0.out.lt f hmem
      have hl2 := (chkL_mem (chk_ok HOK.out).2 f hmem).2
      have h := with_any (f := (q, bytesAt fs p)) hv ⟨⟨HQL.out, by rw [hby]; exact hlt.2⟩, by have := path_len hpp; show q.length ≤ maxLen; unfold maxLen; omega, by show (bytesAt fs p).length ≤ maxLen; rw [hby]; unfold maxLen; omega⟩ (by
        have h1 : (woL p fs).length ≤ fs.length := List.length_filter_le _ _
        have := HL64.out
        omega)
      rw [← hQS] at h
      rw [hFB, find_fst HOK.out hh]
      exact h)
    rw [← hP, ← hQS]
    rw [← hQS] at HPC
    clear hpbl hhs hhs2 hP hQS hFB hFB2
    go_wp2_with fail
    refine HPC.out.mono ?_
    rintro e w' ⟨rfl, rfl⟩
    cases pbl with
    | false =>
      have HD : Hid (movF fs p q = (6, [])) := Lib.hid (by rw [HD0.out]; simp)
      go_wp2_with fail
      exact FIN.out _ _ w1 _ 6 [] rfl rfl rfl HK1.out rfl HD.out (NIL.out w1) (fun b hb => by simp [Value.ownBlock] at hb)
    | true =>
      have HD1 : Hid (movF fs p q = if hs = false then (18, []) else if hs2 = true then (19, []) else putF (remL fs p) q (bytesAt fs p)) := Lib.hid (by rw [HD0.out]; simp)
      go_wp2_with fail
      refine (CF.out w1 HK1.out).mono ?_
      rintro e w2 ⟨rfl, hk2⟩
      have HK2 := Lib.hid (Kp.trans HK1.out hk2)
      have x0 := (XB0.out.keep HK2.out).cell 0 rfl
      have rb2 := RB0.out.keep HK2.out
      have r0 := rb2.cell 0 rfl; have f0 := rb2.free 0
      clear hk2 rb2
      cases hs with
      | false =>
        have HD : Hid (movF fs p q = (18, [])) := Lib.hid (by rw [HD1.out]; simp)
        go_wp2_with fail
        exact FIN.out _ _ w2 _ 18 [] rfl rfl rfl HK2.out rfl HD.out (NIL.out w2) (fun b hb => by simp [Value.ownBlock] at hb)
      | true =>
        go_wp2_with fail
        refine (CF2.out w2 HK2.out).mono ?_
        rintro e w3 ⟨rfl, hk3⟩
        have HK3 := Lib.hid (Kp.trans HK2.out hk3)
        have x0 := (XB0.out.keep HK3.out).cell 0 rfl
        have rb3 := RB0.out.keep HK3.out
        have r0 := rb3.cell 0 rfl; have f0 := rb3.free 0
        clear hk3 rb3
        cases hs2 with
        | true =>
          have HD : Hid (movF fs p q = (19, [])) := Lib.hid (by rw [HD1.out]; simp)
          go_wp2_with fail
          exact FIN.out _ _ w3 _ 19 [] rfl rfl rfl HK3.out rfl HD.out (NIL.out w3) (fun b hb => by simp [Value.ownBlock] at hb)
        | false =>
          have HD : Hid (movF fs p q = (0, wiL (woL p fs) (q, bytesAt fs p))) := Lib.hid (rmov_eq HOK.out HPB.out.symm HHS.out.symm HHS2.out.symm)
          go_wp2_with fail
          refine (CWO.out w3 HK3.out).mono ?_
          rintro e w5 ⟨v5, rfl, hr5, hn5, hk5⟩
          have HK5 := Lib.hid (Kp.trans HK3.out hk5); have HR5 := Lib.hid hr5
          obtain ⟨a5, l5, c5, hv5⟩ := hr5.form
          subst hv5
          clear hr5 hn5 hk5 x0 r0 f0
          go_wp2_with fail
          refine (CWI.out HPB.out.symm HHS.out.symm w5 _ HR5.out).mono ?_
          rintro e w4 ⟨v4, rfl, hr4, hn4, hk4⟩
          have HK4 := Lib.hid (Kp.trans HK5.out hk4)
          obtain ⟨a4, l4, c4, hv4⟩ := hr4.form
          subst hv4
          have HR4 := Lib.hid hr4
          have HNW : Hid (∀ b, (Value.slice a4 l4 c4).ownBlock = some b → rb < b ∧ w.heap.size ≤ b) := Lib.hid (fun b hb => by have h1 := hn4 b hb; have h2 := (RB0.out.keep HK5.out).lt; have h3 := HK0.out.size; have h4 := HK5.out.size; omega)
          have rb4 := RB0.out.keep HK4.out
          have r0 := rb4.cell 0 rfl; have f0 := rb4.free 0
          clear hr4 hn4 hk4 rb4
          go_wp2_with fail
          exact FIN.out _ _ w4 _ 0 _ rfl rfl rfl HK4.out rfl HD.out (fun W' ho => HR4.out.only ho (fun b hb e => by have := (HNW.out b hb).1; omega)) (fun b hb => (HNW.out b hb).2)
  · have hx1 : ((er : Int) == 0) = false := beq_eq_false_iff_ne.2 (by omega)
    have hx2 : ((er : Int) != 0) = true := by rw [bne_iff_ne]; omega
    have HD : Hid (movF fs p q = (er, [])) := Lib.hid (by unfold movF; rw [if_pos (by rw [← HER.out]; exact he), ← HER.out])
    clear he
    go_wp2_with fail
    exact FIN.out _ _ w1 _ er [] rfl rfl rfl HK1.out rfl HD.out (NIL.out w1) (fun b hb => by simp [Value.ownBlock] at hb)
end By
end Go.Proofs.YtmkijkaabcgcbaaGreatDoor
