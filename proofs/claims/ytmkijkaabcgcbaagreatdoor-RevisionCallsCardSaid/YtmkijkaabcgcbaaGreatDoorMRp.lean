/- The program's reader of a payload: text, number, pass, done. Conditions: the reader lies in memory as it is named, apart from the bytes that it reads. -/
import Derived.Test.YtmkijkaabcgcbaaGreatDoorRvE
import Derived.Test.YtmkijkaabcgcbaaGreatDoorMUi
namespace Go.Proofs.YtmkijkaabcgcbaaGreatDoor
namespace By
open Go.RowKit WireN LexN RevN
set_option linter.unusedVariables false
set_option linter.unusedSimpArgs false

theorem rTextE {v : Value} {xs : List Nat} {w : World} (hs : Sl w v xs) (i most : Int) (hi : -9223372036854775808 ≤ i ∧ i ≤ 9223372036854775807) (hm : -9223372036854775808 ≤ most ∧ most ≤ 9223372036854775807) {b : List Nat} {p e : Nat} {s : ByteArray} (h : rdT xs i most = (b, p, e)) (hk : s = st b) :
    Calls Tryz.prog 111 #[v, .int .i64 i, .int .i64 most] w fun r w' => r = .returned (.tuple #[.string s, .int .i64 (p : Nat), .int .i64 (e : Nat)]) ∧ w = w' := by
  have := Text_any hs i hi most hm
  unfold rdTV at this
  rw [h] at this
  rw [hk]
  exact this
theorem rdT_next (l : List Nat) (i most : Int) : (rdT l i most).2.1 ≤ l.length := by
  unfold rdT
  split
  · exact Nat.zero_le _
  · split
    · exact Nat.zero_le _
    · split
      · exact Nat.zero_le _
      · have := rd_next l i
        simp only
        omega
theorem rdT_lt {l : List Nat} (hl : Lt l) (i most : Int) : Lt (rdT l i most).1 ∧ (rdT l i most).1.length ≤ l.length := by
  unfold rdT
  split
  · exact ⟨Lt.nil, Nat.zero_le _⟩
  · split
    · exact ⟨Lt.nil, Nat.zero_le _⟩
    · split
      · exact ⟨Lt.nil, Nat.zero_le _⟩
      · exact ⟨(hl.drop _).take _, by simp; omega⟩
/-- The reader in block g. -/
abbrev Pl (w : World) (g : Nat) (ao : Option Addr) (n cap a : Nat) (b : Bool) : Prop := Blk w g 106 #[.slice ao n cap, .int .i64 (a : Nat), .bool b]
section
variable {w w0 : World} {g : Nat} {ao : Option Addr} {n cap a : Nat} {b : Bool} {xs : List Nat}
set_option maxRecDepth 100000 in
set_option maxHeartbeats 1000000 in
theorem pass_any (h : Pl w g ao n cap a b) (p e : Nat) :
    Calls Tryz.prog 98 #[.pointer (some ⟨g, 0, none⟩), .int .i64 (p : Nat), .int .i64 (e : Nat)] w fun r w' => r = .returned (.tuple #[]) ∧ Pl w' g ao n cap p (b || decide (e ≠ 0)) ∧ Only g w w' := by
  have HB : Hid (Blk w g 106 #[.slice ao n cap, .int .i64 (a : Nat), .bool b]) := Lib.hid h
  have c1 := h.cell 1 rfl; have c2 := h.cell 2 rfl
  have f1 := h.free 1; have f2 := h.free 2
  clear h
  have HF : Hid (∀ (c : Bool) (W : World), W = ((w.setCell ⟨g, 1, none⟩ (.int .i64 (p : Nat))).setCell ⟨g, 2, none⟩ (.bool c)) → Pl W g ao n cap p c ∧ Only g w W) := Lib.hid (fun c W hW => by
    subst hW
    exact ⟨(HB.out.set 1 _).set 2 _, ((Only.refl g w).set 1 _).set 2 _⟩)
  by_cases he : e = 0
  · subst he
    have hd : (b || decide ((0 : Nat) ≠ 0)) = b := by simp
    rw [hd]
    cases b with
    | true =>
      go_enter Tryz.func98, Tryz.ntmps98
      go_wp2_with fail
      go_end0
      exact ⟨rfl, HF.out _ _ rfl⟩
    | false =>
      go_enter Tryz.func98, Tryz.ntmps98
      go_wp2_with fail
      go_end0
      exact ⟨rfl, HF.out _ _ rfl⟩
  · have hd : (b || decide (e ≠ 0)) = true := by simp [he]
    rw [hd]
    have hx1 : ((e : Int) == 0) = false := beq_eq_false_iff_ne.2 (by omega)
    have hx2 : ((e : Int) != 0) = true := by rw [bne_iff_ne]; omega
    clear he hd
    cases b with
    | true =>
      go_enter Tryz.func98, Tryz.ntmps98
      go_wp2_with fail
      go_end0
      exact ⟨rfl, HF.out _ _ rfl⟩
    | false =>
      go_enter Tryz.func98, Tryz.ntmps98
      go_wp2_with fail
      go_end0
      exact ⟨rfl, HF.out _ _ rfl⟩
set_option maxRecDepth 100000 in
set_option maxHeartbeats 1000000 in
theorem text_any (h : Pl w g ao n cap a b) (hs : Sl w0 (.slice ao n cap) xs) (hk : Kp w0 w) (ha : a ≤ n) {t : List Nat} {p e : Nat} (hr : rdT xs (a : Nat) (n : Nat) = (t, p, e)) :
    Calls Tryz.prog 96 #[.pointer (some ⟨g, 0, none⟩)] w fun r w' => r = .returned (.string (st t)) ∧ Pl w' g ao n cap p (b || decide (e ≠ 0)) ∧ Only g w w' := by
  have hn : n ≤ 140737488355328 := by
    obtain ⟨_, _, e1, _⟩ := hs.open3
    simp only [Value.slice.injEq] at e1
    have := hs.sm
    omega
  have HB : Hid (Blk w g 106 #[.slice ao n cap, .int .i64 (a : Nat), .bool b]) := Lib.hid h
  have c0 := h.cell 0 rfl; have c1 := h.cell 1 rfl
  obtain ⟨S, hS⟩ : ∃ S, S = st t := ⟨_, rfl⟩
  have HT : Hid (∀ W, Kp w W → Calls Tryz.prog 111 #[.slice ao n cap, .int .i64 (a : Nat), .int .i64 (n : Nat)] W fun r w' => r = .returned (.tuple #[.string S, .int .i64 (p : Nat), .int .i64 (e : Nat)]) ∧ W = w') :=
    Lib.hid (fun W hkw => rTextE (hs.keep (Kp.trans hk hkw)) (a : Nat) (n : Nat) (by omega) (by omega) hr hS)
  rw [← hS]
  clear h hs hk hr hS ha hn
  go_enter Tryz.func96, Tryz.ntmps96
  go_wp2_with fail
  go_quiet ((go_at_call 111; exact quiet_l (HT.out _ (Kp.drewN w _))))
  go_wp2_with fail
  refine (pass_any (HB.out.drewN _) p e).mono ?_
  rintro r w1 ⟨rfl, hp, ho⟩
  have HP := Lib.hid hp; have HO := Lib.hid (Only.trans (Only.drewN (Only.refl g w) _) ho)
  clear hp ho
  go_wp2_with fail
  go_ret
  exact ⟨rfl, HP.out, HO.out⟩
set_option maxRecDepth 100000 in
set_option maxHeartbeats 1000000 in
theorem number_pl (h : Pl w g ao n cap a b) (hs : Sl w0 (.slice ao n cap) xs) (hk : Kp w0 w) (ha : a ≤ n) {t p e : Nat} (hr : rd xs (a : Nat) = (t, p, e)) :
    Calls Tryz.prog 79 #[.pointer (some ⟨g, 0, none⟩)] w fun r w' => r = .returned (.int .u64 (t : Nat)) ∧ Pl w' g ao n cap p (b || decide (e ≠ 0)) ∧ Only g w w' := by
  have hn : n ≤ 140737488355328 := by
    obtain ⟨_, _, e1, _⟩ := hs.open3
    simp only [Value.slice.injEq] at e1
    have := hs.sm
    omega
  have HB : Hid (Blk w g 106 #[.slice ao n cap, .int .i64 (a : Nat), .bool b]) := Lib.hid h
  have c0 := h.cell 0 rfl; have c1 := h.cell 1 rfl
  have HT : Hid (∀ W, Kp w W → Calls Tryz.prog 97 #[.slice ao n cap, .int .i64 (a : Nat)] W fun r w' => r = .returned (.tuple #[.int .u64 (t : Nat), .int .i64 (p : Nat), .int .i64 (e : Nat)]) ∧ W = w') :=
    Lib.hid (fun W hkw => Uint_at (hs.keep (Kp.trans hk hkw)) (a : Nat) (by omega) hr)
  clear h hs hk hr ha hn
  go_enter Tryz.func79, Tryz.ntmps79
  go_wp2_with fail
  go_quiet ((go_at_call 97; exact quiet_l (HT.out _ (Kp.drewN w _))))
  go_wp2_with fail
  refine (pass_any (HB.out.drewN _) p e).mono ?_
  rintro r w1 ⟨rfl, hp, ho⟩
  have HP := Lib.hid hp; have HO := Lib.hid (Only.trans (Only.drewN (Only.refl g w) _) ho)
  clear hp ho
  go_wp2_with fail
  go_ret
  exact ⟨rfl, HP.out, HO.out⟩
set_option maxRecDepth 100000 in
set_option maxHeartbeats 1000000 in
theorem done_any (h : Pl w g ao n cap a b) :
    Calls Tryz.prog 80 #[.pointer (some ⟨g, 0, none⟩)] w fun r w' => r = .returned (.bool (!b && decide (a = n))) ∧ ∃ k, w' = w.drewN k := by
  have c0 := h.cell 0 rfl; have c1 := h.cell 1 rfl; have c2 := h.cell 2 rfl
  clear h
  cases b with
  | true =>
    go_enter Tryz.func80, Tryz.ntmps80
    go_wp2_with fail
    go_quiet (fail)
    go_wp2_with fail
    go_ret
    exact ⟨rfl, _, rfl⟩
  | false =>
    by_cases he : a = n
    · subst he
      have hx : ((a : Int) == (a : Int)) = true := by simp
      go_enter Tryz.func80, Tryz.ntmps80
      go_wp2_with fail
      go_quiet (fail)
      go_wp2_with fail
      go_ret
      exact ⟨by simp, _, rfl⟩
    · have hx : ((a : Int) == (n : Int)) = false := beq_eq_false_iff_ne.2 (by omega)
      have hd : decide (a = n) = false := decide_eq_false he
      rw [hd]
      clear he hd
      go_enter Tryz.func80, Tryz.ntmps80
      go_wp2_with fail
      go_quiet (fail)
      go_wp2_with fail
      go_ret
      exact ⟨rfl, _, rfl⟩
end
end By
end Go.Proofs.YtmkijkaabcgcbaaGreatDoor

/- The program's readFile and isCount. Condition: the slice holds the bytes that are named. -/
namespace Go.Proofs.YtmkijkaabcgcbaaGreatDoor
namespace By
open Go.RowKit WireN LexN RevN
set_option linter.unusedVariables false
set_option linter.unusedSimpArgs false

/-- What a payload reads as, whether it is right or not. -/
def rdP (l : List Nat) : Fl := ((rdT l ((0 : Nat) : Int) (l.length : Nat)).1, (rdT l ((rdT l ((0 : Nat) : Int) (l.length : Nat)).2.1 : Nat) (l.length : Nat)).1)
def okP (l : List Nat) : Bool :=
  !((false || decide ((rdT l ((0 : Nat) : Int) (l.length : Nat)).2.2 ≠ 0)) || decide ((rdT l ((rdT l ((0 : Nat) : Int) (l.length : Nat)).2.1 : Nat) (l.length : Nat)).2.2 ≠ 0)) &&
    decide ((rdT l ((rdT l ((0 : Nat) : Int) (l.length : Nat)).2.1 : Nat) (l.length : Nat)).2.1 = l.length)
theorem rdF_ok (l : List Nat) : rdF l = if okP l = true then some (rdP l) else none := by
  unfold rdF okP rdP
  have e0 : ((0 : Nat) : Int) = 0 := rfl
  rw [e0]
  by_cases h1 : (rdT l 0 (l.length : Nat)).2.2 = 0
  · by_cases h2 : (rdT l ((rdT l 0 (l.length : Nat)).2.1 : Nat) (l.length : Nat)).2.2 = 0
    · by_cases h3 : (rdT l ((rdT l 0 (l.length : Nat)).2.1 : Nat) (l.length : Nat)).2.1 = l.length
      · simp [h1, h2, h3]
      · simp [h1, h2, h3]
    · simp [h1, h2]
  · simp [h1]
theorem rdP_lt {l : List Nat} (hl : Lt l) : (Lt (rdP l).1 ∧ Lt (rdP l).2) ∧ ((rdP l).1.length ≤ l.length ∧ (rdP l).2.length ≤ l.length) :=
  ⟨⟨(rdT_lt hl _ _).1, (rdT_lt hl _ _).1⟩, ⟨(rdT_lt hl _ _).2, (rdT_lt hl _ _).2⟩⟩
set_option maxRecDepth 100000 in
set_option maxHeartbeats 2000000 in
theorem readFile_any {v : Value} {xs : List Nat} {w : World} (hs : Sl w v xs) :
    Calls Tryz.prog 78 #[v] w fun e w' => e = .returned (.tuple #[.agg #[.string (st (rdP xs).1), .string (st (rdP xs).2)], .bool (okP xs)]) ∧ Kp w w' := by
  obtain ⟨ao, cap, rfl, -, -, -⟩ := hs.open3
  obtain ⟨n, hn⟩ : ∃ n, n = xs.length := ⟨_, rfl⟩
  rw [← hn] at hs ⊢
  obtain ⟨⟨s1, p1, e1⟩, hr1⟩ : ∃ r, rdT xs ((0 : Nat) : Int) (n : Nat) = r := ⟨_, rfl⟩
  obtain ⟨⟨s2, p2, e2⟩, hr2⟩ : ∃ r, rdT xs (p1 : Nat) (n : Nat) = r := ⟨_, rfl⟩
  have hp1 : p1 ≤ n := by have := rdT_next xs ((0 : Nat) : Int) (n : Nat); rw [hr1] at this; rw [hn]; exact this
  have hrp : rdP xs = (s1, s2) := by unfold rdP; rw [← hn, hr1, hr2]
  have hok : okP xs = (!((false || decide (e1 ≠ 0)) || decide (e2 ≠ 0)) && decide (p2 = n)) := by unfold okP; rw [← hn, hr1, hr2]
  rw [hrp, hok]
  simp only
  obtain ⟨W0, hW0⟩ : ∃ W0, W0 = w.alloc (.cells #[.string ⟨#[]⟩, .string ⟨#[]⟩] 55) := ⟨_, rfl⟩
  obtain ⟨W1, hW1⟩ : ∃ W1, W1 = W0.alloc (.cells #[.slice ao n cap, .int .i64 0, .bool false] 106) := ⟨_, rfl⟩
  obtain ⟨rb, hrb⟩ : ∃ rb, rb = w.heap.size := ⟨_, rfl⟩
  obtain ⟨pb, hpb⟩ : ∃ pb, pb = w.heap.size + 1 := ⟨_, rfl⟩
  have hz0 : W0.heap.size = w.heap.size + 1 := by rw [hW0]; simp
  have ka : Kp w W0 := by rw [hW0]; exact kp_alloc w _
  have kb : Kp W0 W1 := by rw [hW1]; exact kp_alloc W0 _
  have K1 : Hid (Kp w W1) := Lib.hid (Kp.trans ka kb)
  have RB1 : Hid (Blk W1 rb 55 #[.string ⟨#[]⟩, .string ⟨#[]⟩]) := Lib.hid (by
    have : Blk W0 w.heap.size 55 #[.string ⟨#[]⟩, .string ⟨#[]⟩] := by rw [hW0]; exact Blk.new _ _ _
    rw [hrb]
    exact this.keep kb)
  have PB1 : Hid (Pl W1 pb ao n cap 0 false) := Lib.hid (by rw [hW1, hpb, ← hz0]; exact Blk.new _ _ _)
  have NE : Hid (rb ≠ pb) := Lib.hid (by omega)
  have GR : Hid (w.heap.size ≤ rb) := Lib.hid (by omega)
  have GP : Hid (w.heap.size ≤ pb) := Lib.hid (by omega)
  have HS := Lib.hid hs
  have HR1 := Lib.hid hr1; have HR2 := Lib.hid hr2; have HP1 := Lib.hid hp1
  have HW1 : Hid (W1 = (w.alloc (.cells #[.string ⟨#[]⟩, .string ⟨#[]⟩] 55)).alloc (.cells #[.slice ao n cap, .int .i64 0, .bool false] 106)) := Lib.hid (by rw [hW1, hW0])
  have ERB := Lib.hid hrb
  have EPB := Lib.hid hpb
  obtain ⟨S1, hS1⟩ : ∃ S, S = st s1 := ⟨_, rfl⟩
  obtain ⟨S2, hS2⟩ : ∃ S, S = st s2 := ⟨_, rfl⟩
  have HS1 := Lib.hid hS1; have HS2 := Lib.hid hS2
  rw [← hS1, ← hS2]
  obtain ⟨b1, hb1⟩ : ∃ b1, b1 = (false || decide (e1 ≠ 0)) := ⟨_, rfl⟩
  rw [← hb1]
  obtain ⟨b2, hb2⟩ : ∃ b2, b2 = (b1 || decide (e2 ≠ 0)) := ⟨_, rfl⟩
  rw [← hb2]
  obtain ⟨ok, hokk⟩ : ∃ ok, ok = (!b2 && decide (p2 = n)) := ⟨_, rfl⟩
  rw [← hokk]
  have HB1 := Lib.hid hb1; have HB2 := Lib.hid hb2; have HOK := Lib.hid hokk
  clear hb1 hb2 hokk hs hn hr1 hr2 hp1 hrp hok hW0 hW1 hrb hpb hz0 ka kb hS1 hS2
  go_enter Tryz.func78, Tryz.ntmps78
  go_wp2_with fail
  rw [← HW1.out, ← EPB.out, ← ERB.out]
  refine (text_any PB1.out HS.out K1.out (Nat.zero_le _) HR1.out).mono ?_
  rintro r w2 ⟨rfl, hp2, ho2⟩
  rw [← HS1.out]
  rw [← HB1.out] at hp2
  have HK2 : Hid (Kp w w2) := Lib.hid (Only.kp K1.out ho2 GP.out)
  have rb2 := RB1.out.other ho2 NE.out
  have r0 := rb2.cell 0 rfl; have g0 := rb2.free 0
  have RB2 := Lib.hid rb2; have PB2 := Lib.hid hp2
  clear hp2 ho2 rb2
  go_wp2_with fail
  obtain ⟨w3, hw3⟩ : ∃ w3, w3 = w2.setCell ⟨rb, 0, none⟩ (.string S1) := ⟨_, rfl⟩
  rw [← hw3]
  have o3 : Only rb w2 w3 := by rw [hw3]; exact (Only.refl rb w2).set 0 _
  have RB3 : Hid (Blk w3 rb 55 #[.string S1, .string ⟨#[]⟩]) := Lib.hid (by rw [hw3]; exact RB2.out.set 0 _)
  have PB3 : Hid (Pl w3 pb ao n cap p1 b1) := Lib.hid (PB2.out.other o3 (fun e => NE.out e.symm))
  have HK3 : Hid (Kp w w3) := Lib.hid (Only.kp HK2.out o3 GR.out)
  clear hw3 o3 r0 g0
  refine (text_any PB3.out HS.out HK3.out HP1.out HR2.out).mono ?_
  rintro r w4 ⟨rfl, hp4, ho4⟩
  rw [← HS2.out]
  rw [← HB2.out] at hp4
  have HK4 : Hid (Kp w w4) := Lib.hid (Only.kp HK3.out ho4 GP.out)
  have rb4 := RB3.out.other ho4 NE.out
  have r0 := rb4.cell 1 rfl; have g0 := rb4.free 1
  have RB4 := Lib.hid rb4; have PB4 := Lib.hid hp4
  clear hp4 ho4 rb4
  go_wp2_with fail
  obtain ⟨w5, hw5⟩ : ∃ w5, w5 = w4.setCell ⟨rb, 1, none⟩ (.string S2) := ⟨_, rfl⟩
  rw [← hw5]
  have o5 : Only rb w4 w5 := by rw [hw5]; exact (Only.refl rb w4).set 1 _
  have RB5 : Hid (Blk w5 rb 55 #[.string S1, .string S2]) := Lib.hid (by rw [hw5]; exact RB4.out.set 1 _)
  have HK5 : Hid (Kp w w5) := Lib.hid (Only.kp HK4.out o5 GR.out)
  have HD : Hid (∀ k, Calls Tryz.prog 80 #[.pointer (some ⟨pb, 0, none⟩)] (w5.drewN k) fun r w' => r = .returned (.bool (!b2 && decide (p2 = n))) ∧ ∃ m, w' = (w5.drewN k).drewN m) :=
    Lib.hid (fun k => done_any ((PB4.out.other o5 (fun e => NE.out e.symm)).drewN k))
  have r0 := RB5.out.cell 0 rfl; have r1 := RB5.out.cell 1 rfl; have g0 := RB5.out.free 0; have g1 := RB5.out.free 1
  have FIN : Hid (∀ (a : Act) (W X : World), Drawn w5 X → W = (X.setCell ⟨rb, 0, none⟩ (.string S1)).setCell ⟨rb, 1, none⟩ (.string S2) → a.defers = [] → a.tmps.getD 2 undef = .pointer (some ⟨rb, 0, none⟩) → a.tmps.getD 3 undef = .bool ok →
      bodyPost Tryz.prog Tryz.f78 (fun e w' => e = .returned (.tuple #[.agg #[.string S1, .string S2], .bool ok]) ∧ Kp w w') .ret a W) := Lib.hid (by
    intro a W X hd hW h0 h2 h3
    obtain ⟨k, rfl⟩ := hd
    have rbX : Blk (w5.drewN k) rb 55 #[.string S1, .string S2] := RB5.out.drewN k
    have oW : Only rb w5 W := by rw [hW]; exact ((Only.drewN (Only.refl rb w5) k).set 0 _).set 1 _
    have rbW : Blk W rb 55 #[.string S1, .string S2] := by rw [hW]; exact (rbX.set 0 _).set 1 _
    have e0 := rbW.cell 0 rfl; have e1 := rbW.cell 1 rfl
    have h2' : a.tmps[2]?.getD undef = .pointer (some ⟨rb, 0, none⟩) := by simpa using h2
    have h3' : a.tmps[3]?.getD undef = .bool ok := by simpa using h3
    exact bodyPost_ret (by simp [results, Tryz.results78, go_sem, h2', h3', e0, e1]) h0 ⟨rfl, Only.kp HK5.out oW GR.out⟩)
  rw [← HOK.out] at HD
  clear hw5 o5
  go_wp2_with fail
  go_region_with (first | (go_at_call 80; refine (HD.out 1).mono ?_; rintro r w6 ⟨rfl, m, rfl⟩) | fail "no arm")
  all_goals (go_wp2_with fail; exact FIN.out _ _ _ (by repeat (first | exact Drawn.refl _ | apply Drawn.drew | apply Drawn.one)) rfl rfl rfl rfl)
end By
end Go.Proofs.YtmkijkaabcgcbaaGreatDoor
