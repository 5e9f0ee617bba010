/- The reference's file. Condition: the slice holds the bytes that are named. -/
import Derived.Test.YtmkijkaabcgcbaaGreatDoorMRg
import Derived.Test.YtmkijkaabcgcbaaGreatDoorMRc
namespace Go.Proofs.YtmkijkaabcgcbaaGreatDoor
namespace By
open Go.RowKit WireN LexN RevN
set_option linter.unusedVariables false
set_option linter.unusedSimpArgs false

theorem rrTextE {v : Value} {xs : List Nat} {w : World} (hs : Sl w v xs) (i most : Int) (hi : -9223372036854775808 ≤ i ∧ i ≤ 9223372036854775807) (hm : -9223372036854775808 ≤ most ∧ most ≤ 9223372036854775807) {b : List Nat} {p e : Nat} {s : ByteArray} (h : rdT xs i most = (b, p, e)) (hk : s = st b) :
    Calls Tryz.prog 89 #[v, .int .i64 i, .int .i64 most] w fun r w' => r = .returned (.tuple #[.string s, .int .i64 (p : Nat), .int .i64 (e : Nat)]) ∧ w = w' := by
  have := rText_any hs i hi most hm
  unfold rdTV at this
  rw [h] at this
  rw [hk]
  exact this
/-- What file answers. -/
def FileR (w : World) (xs : List Nat) (e : Ending) (w' : World) : Prop :=
  ∃ f : Fl, e = .returned (.tuple #[.agg #[.string (st f.1), .string (st f.2)], .bool (rdF xs).isSome]) ∧ (∀ x, rdF xs = some x → f = x) ∧ ((Lt f.1 ∧ Lt f.2) ∧ (f.1.length ≤ maxLen ∧ f.2.length ≤ maxLen)) ∧ Kp w w'
set_option maxRecDepth 100000 in
set_option maxHeartbeats 2000000 in
theorem rfile_any {v : Value} {xs : List Nat} {w : World} (hs : Sl w v xs) : Calls Tryz.prog 72 #[v] w (FileR w xs) := by
  have hmx := hs.len
  have hsm := hs.sm
  obtain ⟨ao, cap, rfl, -, -, -⟩ := hs.open3
  obtain ⟨n, hn⟩ : ∃ n, n = xs.length := ⟨_, rfl⟩
  rw [← hn] at hs hmx hsm ⊢
  obtain ⟨⟨s1, p1, e1⟩, hr1⟩ : ∃ r, rdT xs ((0 : Nat) : Int) (n : Nat) = r := ⟨_, rfl⟩
  obtain ⟨⟨s2, p2, e2⟩, hr2⟩ : ∃ r, rdT xs (p1 : Nat) (n : Nat) = r := ⟨_, rfl⟩
  have hp1 : p1 ≤ n := by have := rdT_next xs ((0 : Nat) : Int) (n : Nat); rw [hr1] at this; rw [hn]; exact this
  have hl1 : Lt s1 ∧ s1.length ≤ n := by have := rdT_lt hs.lt ((0 : Nat) : Int) (n : Nat); rw [hr1, ← hn] at this; exact this
  have hl2 : Lt s2 ∧ s2.length ≤ n := by have := rdT_lt hs.lt (p1 : Nat) (n : Nat); rw [hr2, ← hn] at this; exact this
  have hrd : rdF xs = if e1 ≠ 0 then none else if e2 ≠ 0 ∨ p2 ≠ n then none else some (s1, s2) := by
    have e0 : ((0 : Nat) : Int) = 0 := rfl
    rw [e0] at hr1
    unfold rdF
    rw [← hn, hr1]
    simp only
    rw [hr2]
  obtain ⟨Q, hQ⟩ : ∃ Q, Q = FileR w xs := ⟨_, rfl⟩
  rw [← hQ]
  obtain ⟨rb, hrb⟩ : ∃ rb, rb = w.heap.size := ⟨_, rfl⟩
  obtain ⟨W0, hW0⟩ : ∃ W0, W0 = w.alloc (.cells #[.string ⟨#[]⟩, .string ⟨#[]⟩] 55) := ⟨_, rfl⟩
  have HK0 : Hid (Kp w W0) := Lib.hid (by rw [hW0]; exact kp_alloc w _)
  have RB0 : Hid (Blk W0 rb 55 #[.string ⟨#[]⟩, .string ⟨#[]⟩]) := Lib.hid (by rw [hW0, hrb]; exact Blk.new w _ _)
  have HW0 := Lib.hid hW0; have ERB := Lib.hid hrb
  have GR : Hid (w.heap.size ≤ rb) := Lib.hid (by omega)
  obtain ⟨S1, hS1⟩ : ∃ S, S = st s1 := ⟨_, rfl⟩
  obtain ⟨S2, hS2⟩ : ∃ S, S = st s2 := ⟨_, rfl⟩
  have C1 := Lib.hid (rrTextE (hs.keep HK0.out) ((0 : Nat) : Int) (n : Nat) (by omega) (by omega) hr1 hS1)
  have C2 := Lib.hid (rrTextE (hs.keep HK0.out) (p1 : Nat) (n : Nat) (by omega) (by omega) hr2 hS2)
  have FIN : Hid (∀ (a : Act) (W : World) (f : Fl) (b : Bool), a.defers = [] → a.tmps.getD 2 undef = .pointer (some ⟨rb, 0, none⟩) → a.tmps.getD 3 undef = .bool b → W = (W0.setCell ⟨rb, 0, none⟩ (.string (st f.1))).setCell ⟨rb, 1, none⟩ (.string (st f.2)) →
      b = (rdF xs).isSome → (∀ x, rdF xs = some x → f = x) → ((Lt f.1 ∧ Lt f.2) ∧ (f.1.length ≤ n ∧ f.2.length ≤ n)) → bodyPost Tryz.prog Tryz.f72 Q .ret a W) := Lib.hid (by
    intro a W f b h0 h2 h3 hW hb hx hl
    have oW : Only rb W0 W := by rw [hW]; exact ((Only.refl rb W0).set 0 _).set 1 _
    have hbW : Blk W rb 55 #[.string (st f.1), .string (st f.2)] := by rw [hW]; exact (RB0.out.set 0 _).set 1 _
    have e0 := hbW.cell 0 rfl; have e1 := hbW.cell 1 rfl
    have h2' : a.tmps[2]?.getD undef = .pointer (some ⟨rb, 0, none⟩) := by simpa using h2
    have h3' : a.tmps[3]?.getD undef = .bool b := by simpa using h3
    refine bodyPost_ret (v := .tuple #[.agg #[.string (st f.1), .string (st f.2)], .bool b]) (by simp [results, Tryz.results72, go_sem, h2', h3', e0, e1]) h0 ?_
    rw [hQ]
    exact ⟨f, by rw [hb], hx, ⟨hl.1, by omega, by omega⟩, Only.kp HK0.out oW GR.out⟩)
  have r0 := RB0.out.cell 0 rfl; have r1 := RB0.out.cell 1 rfl; have f0 := RB0.out.free 0; have f1 := RB0.out.free 1
  have HL1 := Lib.hid hl1; have HL2 := Lib.hid hl2; have HS1 := Lib.hid hS1; have HS2 := Lib.hid hS2
  clear hs hn hr1 hr2 hp1 hl1 hl2 hQ hrb hW0 hS1 hS2 hmx hsm
  by_cases he1 : e1 = 0
  · subst he1
    by_cases he2 : e2 = 0
    · subst he2
      by_cases hp : p2 = n
      · subst hp
        have HD : Hid (rdF xs = some (s1, s2)) := Lib.hid (by rw [hrd]; simp)
        have hq : ((p2 : Int) == (p2 : Int)) = true := by simp
        clear hrd
        go_enter Tryz.func72, Tryz.ntmps72
        go_wp2_with fail
        rw [← HW0.out, ← ERB.out]
        refine C1.out.mono ?_
        rintro e w1 ⟨rfl, rfl⟩
        go_wp2_with fail
        refine C2.out.mono ?_
        rintro e w1 ⟨rfl, rfl⟩
        go_wp2_with fail
        exact FIN.out _ _ (s1, s2) true rfl rfl rfl (by rw [HS1.out, HS2.out]) (by rw [HD.out]; rfl) (fun x hx => by rw [HD.out] at hx; exact Option.some.inj hx) ⟨⟨HL1.out.1, HL2.out.1⟩, HL1.out.2, HL2.out.2⟩
      · have HD : Hid (rdF xs = none) := Lib.hid (by rw [hrd]; simp [hp])
        have hq : ((p2 : Int) == (n : Int)) = false := beq_eq_false_iff_ne.2 (by omega)
        clear hrd hp
        go_enter Tryz.func72, Tryz.ntmps72
        go_wp2_with fail
        rw [← HW0.out, ← ERB.out]
        refine C1.out.mono ?_
        rintro e w1 ⟨rfl, rfl⟩
        go_wp2_with fail
        refine C2.out.mono ?_
        rintro e w1 ⟨rfl, rfl⟩
        go_wp2_with fail
        exact FIN.out _ _ (s1, s2) false rfl rfl rfl (by rw [HS1.out, HS2.out]) (by rw [HD.out]; rfl) (fun x hx => by rw [HD.out] at hx; cases hx) ⟨⟨HL1.out.1, HL2.out.1⟩, HL1.out.2, HL2.out.2⟩
    · have HD : Hid (rdF xs = none) := Lib.hid (by rw [hrd]; simp [he2])
      have hx1 : ((e2 : Int) == 0) = false := beq_eq_false_iff_ne.2 (by omega)
      have hx2 : ((e2 : Int) != 0) = true := by rw [bne_iff_ne]; omega
      clear hrd he2
      go_enter Tryz.func72, Tryz.ntmps72
      go_wp2_with fail
      rw [← HW0.out, ← ERB.out]
      refine C1.out.mono ?_
      rintro e w1 ⟨rfl, rfl⟩
      go_wp2_with fail
      refine C2.out.mono ?_
      rintro e w1 ⟨rfl, rfl⟩
      go_wp2_with fail
      exact FIN.out _ _ (s1, s2) false rfl rfl rfl (by rw [HS1.out, HS2.out]) (by rw [HD.out]; rfl) (fun x hx => by rw [HD.out] at hx; cases hx) ⟨⟨HL1.out.1, HL2.out.1⟩, HL1.out.2, HL2.out.2⟩
  · have HD : Hid (rdF xs = none) := Lib.hid (by rw [hrd]; simp [he1])
    have hx1 : ((e1 : Int) == 0) = false := beq_eq_false_iff_ne.2 (by omega)
    have hx2 : ((e1 : Int) != 0) = true := by rw [bne_iff_ne]; omega
    clear hrd he1
    go_enter Tryz.func72, Tryz.ntmps72
    go_wp2_with fail
    rw [← HW0.out, ← ERB.out]
    refine C1.out.mono ?_
    rintro e w1 ⟨rfl, rfl⟩
    go_wp2_with fail
    exact FIN.out _ _ ([], []) false rfl rfl rfl rfl (by rw [HD.out]; rfl) (fun x hx => by rw [HD.out] at hx; cases hx) ⟨⟨Lt.nil, Lt.nil⟩, Nat.zero_le _, Nat.zero_le _⟩
end By
end Go.Proofs.YtmkijkaabcgcbaaGreatDoor

/- The reference's Decode. Condition: the slice holds the bytes that are named, at most a million. -/
namespace Go.Proofs.YtmkijkaabcgcbaaGreatDoor
namespace By
open Go.RowKit Go.Shelf WireN LexN RevN
set_option linter.unusedVariables false
set_option linter.unusedSimpArgs false

set_option maxRecDepth 100000 in
set_option maxHeartbeats 6000000 in
theorem rDecode_any {v : Value} {xs : List Nat} {w : World} (hs : Sl w v xs) (hsm : xs.length ≤ 1000000) : Calls Tryz.prog 50 #[v] w (DecR w xs) := by
  obtain ⟨ao, cap, rfl, -, -, -⟩ := hs.open3
  obtain ⟨len, hlen⟩ : ∃ len, len = xs.length := ⟨_, rfl⟩
  rw [← hlen] at hs ⊢
  obtain ⟨Q, hQ⟩ : ∃ Q, Q = DecR w xs := ⟨_, rfl⟩
  rw [← hQ]
  have HQ := Lib.hid hQ
  obtain ⟨rb, hrb⟩ : ∃ rb, rb = w.heap.size := ⟨_, rfl⟩
  obtain ⟨W0, hW0⟩ : ∃ W0, W0 = w.alloc (.cells #[.slice none 0 0] 28) := ⟨_, rfl⟩
  have HK0 : Hid (Kp w W0) := Lib.hid (by rw [hW0]; exact kp_alloc w _)
  have RB0 : Hid (Blk W0 rb 28 #[.slice none 0 0]) := Lib.hid (by rw [hW0, hrb]; exact Blk.new w _ _)
  have HF := Lib.hid (rFrames_any (hs.keep HK0.out) hsm)
  have HW0 := Lib.hid hW0; have ERB := Lib.hid hrb; have HSM := Lib.hid hsm
  have GR : Hid (w.heap.size ≤ rb) := Lib.hid (by omega)
  clear hs hsm hlen hQ hrb hW0
  go_enter Tryz.func50, Tryz.ntmps50
  go_wp2_with fail
  rw [← HW0.out, ← ERB.out]
  refine HF.out.mono ?_
  rintro e w1 ⟨⟨fs, vps, q, E, vo, hst, rfl, hfr⟩⟩
  have hk1 := hfr.kp
  have HK1 := Lib.hid (Kp.trans HK0.out hk1)
  have rb1 := RB0.out.keep hk1
  have FIN : Hid (∀ (a : Act) (W X : World) (u : Value) (er : Nat) (gs : List Fl), a.defers = [] → a.tmps.getD 2 undef = .pointer (some ⟨rb, 0, none⟩) → a.tmps.getD 3 undef = .int .i64 (er : Nat) → (∃ u', Blk X rb 28 #[u']) → W = X.setCell ⟨rb, 0, none⟩ u →
      dec fs E = (er, gs) → (∀ W', Only rb X W' → Rw W' u gs) → Kp w X → bodyPost Tryz.prog Tryz.f50 Q .ret a W) := Lib.hid (by
    intro a W X u er gs h0 h2 h3 hb hW hd hr hk
    obtain ⟨u', hb⟩ := hb
    have oW : Only rb X W := by rw [hW]; exact (Only.refl rb X).set 0 _
    have hbW : Blk W rb 28 #[u] := by rw [hW]; exact hb.set 0 _
    have e0 := hbW.cell 0 rfl
    have h2' : a.tmps[2]?.getD undef = .pointer (some ⟨rb, 0, none⟩) := by simpa using h2
    have h3' : a.tmps[3]?.getD undef = .int .i64 (er : Nat) := by simpa using h3
    refine bodyPost_ret (v := .tuple #[.agg #[u], .int .i64 (er : Nat)]) (by simp [results, Tryz.results50, go_sem, h2', h3', e0]) h0 ?_
    rw [HQ.out]
    exact ⟨fs, q, E, u, hfr.ch, hst, by rw [hd], by rw [hd]; exact hr W oW, Only.kp hk oW GR.out⟩)
  have NIL : Hid (∀ (X W' : World), Only rb X W' → Rw W' (.slice none 0 0) []) := Lib.hid (fun _ W' _ => Rw.nil W')
  have hfs := hfr.fs HSM.out
  obtain ⟨ofr, cfr, hvo, hcfr, -⟩ := hfs.ex
  subst hvo
  obtain ⟨n, hn⟩ : ∃ n, n = fs.length := ⟨_, rfl⟩
  rw [← hn] at hfs hcfr ⊢
  have HFS := Lib.hid hfs; have HN := Lib.hid hn
  have hnf : (n : Int) ≤ 1000000 := by have := hfs.few; omega
  have hcpf : (n : Int) ≤ (cfr : Int) := by omega
  have r0 := rb1.cell 0 rfl; have f0 := rb1.free 0
  have RB1 := Lib.hid rb1
  clear hfs hcfr hn rb1 hfr hst hk1
  by_cases hE : E = 0
  · subst hE
    by_cases h0 : n = 0
    · subst h0
      have HD : Hid (dec fs 0 = (7, [])) := Lib.hid (by unfold dec; rw [if_neg (by simp), if_pos (.inl HN.out.symm)])
      go_wp2_with fail
      exact FIN.out _ _ w1 _ 7 [] rfl rfl rfl ⟨_, RB1.out⟩ rfl HD.out (NIL.out w1) HK1.out
    · obtain ⟨m, rfl⟩ : ∃ m, n = m + 1 := ⟨n - 1, by omega⟩
      obtain ⟨g, rfl, hcell⟩ : ∃ g, ofr = some ⟨g, 0, none⟩ ∧ ∀ j x, fs[j]? = some x → ∃ u, w1.cell? ⟨g, j * 2, none⟩ = some (.int .i64 (x.1 : Nat)) ∧ w1.cell? ⟨g, j * 2 + 1, none⟩ = some u ∧ Sl w1 u x.2 := by
        obtain ⟨a', c', e, -, hx⟩ := HFS.out.ex
        simp only [Value.slice.injEq] at e
        obtain ⟨rfl, -, -⟩ := e
        exact hx (by intro e; have := HN.out; rw [e] at this; simp at this)
      obtain ⟨⟨K, PL⟩, hl⟩ : ∃ t, fs[m]? = some t := ⟨_, List.getElem?_eq_getElem (by have := HN.out; omega)⟩
      obtain ⟨u1, a0, a1, s1⟩ := hcell m _ hl
      simp only at a0 s1
      obtain ⟨o1, l1, rfl, -, -, -⟩ := s1.open3
      obtain ⟨L, hL⟩ : ∃ L, L = PL.length := ⟨_, rfl⟩
      rw [← hL] at a1 s1
      have HS1 := Lib.hid s1; have HLL := Lib.hid hL
      have hlast : fs[fs.length - 1]? = some (K, PL) := by rw [← HN.out]; exact hl
      have HDK : Hid (dec fs 0 = if K ≠ 2 then (7, []) else match rdL (fs.take m) with | none => (6, []) | some r => if isN PL m = false then (6, []) else if chk r ≠ 0 then (chk r, []) else (0, r)) := Lib.hid (by
        have hm1 : fs.length - 1 = m := by rw [← HN.out]; omega
        have hne0 : fs.length ≠ 0 := by rw [← HN.out]; omega
        unfold dec
        rw [if_neg (by simp), hlast, hm1]
        simp only [Option.getD_some, hne0, false_or]
        rfl)
      have hmi : (m : Int) ≤ 1000000 := by omega
      have hmc : (m : Int) + 1 ≤ (cfr : Int) := by omega
      have HMC : Hid (m + 1 ≤ cfr) := Lib.hid (by omega)
      have HA1 := Lib.hid a1
      have hz1 : (((m : Int) + 1) == 0) = false := beq_eq_false_iff_ne.2 (by omega)
      have hz2 : (((m + 1 : Nat) : Int) == 0) = false := beq_eq_false_iff_ne.2 (by omega)
      clear h0 hcell hl s1 hL hlast hnf hcpf
      by_cases hK : K = 2
      · have hx1 : ((K : Int) == 2) = true := by rw [beq_iff_eq]; omega
        have hx2 : ((K : Int) != 2) = false := by rw [bne_eq_false_iff_eq]; omega
        have HD1 : Hid (dec fs 0 = match rdL (fs.take m) with | none => (6, []) | some r => if isN PL m = false then (6, []) else if chk r ≠ 0 then (chk r, []) else (0, r)) := Lib.hid (by rw [HDK.out, if_neg (by omega)])
        have HSC : ∀ w, (Instr.slice 79 (.slice (some ⟨g, 0, none⟩) (m + 1) cfr) none (some (.int .i64 (m : Nat))) none).run Tryz.prog w = .ok (sliced (some ⟨g, 0, none⟩) 0 m cfr 2) w := fun w => slice_frames _ _ _ m _ rfl (by have := HMC.out; omega) w
        have hft := HFS.out.to m (by omega)
        obtain ⟨af, cf, hvs, hcf, -⟩ := hft.ex
        have htl : (fs.take m).length = m := by rw [List.length_take, ← HN.out]; omega
        rw [htl] at hvs hcf
        rw [hvs] at HSC hft
        have HFT := Lib.hid hft
        have hcfi : (m : Int) ≤ (cf : Int) := by omega
        obtain ⟨vb, hvb⟩ : ∃ vb, vb = w1.heap.size := ⟨_, rfl⟩
        obtain ⟨W2, hW2⟩ : ∃ W2, W2 = w1.alloc (.cells #[.slice none 0 0] 28) := ⟨_, rfl⟩
        have HK2 : Hid (Kp w1 W2) := Lib.hid (by rw [hW2]; exact kp_alloc w1 _)
        have VB2 : Hid (Blk W2 vb 28 #[.slice none 0 0]) := Lib.hid (by rw [hW2, hvb]; exact Blk.new w1 _ _)
        have HW2 := Lib.hid hW2; have EVB := Lib.hid hvb
        have GV : Hid (w1.heap.size ≤ vb) := Lib.hid (by omega)
        have HTL := Lib.hid htl
        have BADR : Hid (∀ (a : Act) (W X : World), a.defers = [] → a.tmps.getD 2 undef = .pointer (some ⟨rb, 0, none⟩) → a.tmps.getD 3 undef = .int .i64 6 → Kp w1 X → W = X.setCell ⟨rb, 0, none⟩ (.slice none 0 0) →
            rdL (fs.take m) = none → bodyPost Tryz.prog Tryz.f50 Q .ret a W) := Lib.hid (by
          intro a W X h0 h2 h3 hk hW hr
          exact FIN.out a W X _ 6 [] h0 h2 h3 ⟨_, RB1.out.keep hk⟩ hW (by rw [HD1.out, hr]) (NIL.out X) (Kp.trans HK1.out hk))
        clear hK hvs hcf hft htl hvb hW2 r0 f0
        go_wp2_with fail
        rw [← HW2.out, ← EVB.out]
        clear a0 a1
        go_loopw [46] (fun i wr => ∃ (k : Nat) (gs : List Fl) (vr : Value), i = .int .i64 k ∧ k ≤ m ∧ rdL ((fs.take m).take k) = some gs ∧ OwF w1 wr vr gs ∧ Blk wr vb 28 #[vr] ∧ (∀ b, vr.ownBlock = some b → b ≠ vb)) (fun i _ => m - (intOf i).toNat)
        case atStart => exact ⟨0, [], _, rfl, Nat.zero_le _, rfl, (OwF.start w1).keep HK2.out, VB2.out, fun b hb => by simp [Value.ownBlock] at hb⟩
        case round =>
          obtain ⟨k, gs, vr, rfl, hk, hgs, hown, hrow, hne⟩ := hrel
          rename World => wx
          have HOWN := Lib.hid hown; have HROW := Lib.hid hrow; have HNE := Lib.hid hne; have HGS := Lib.hid hgs
          obtain ⟨⟨oa, ol, oc, hvr⟩, hrf⟩ := row_form hown.owns
          subst hvr
          have HRF := Lib.hid hrf
          have HOL : Hid (ol = gs.length) := Lib.hid (by
            obtain ⟨_, _, e, _⟩ := hown.rw.open3
            simp only [Value.slice.injEq] at e
            exact e.2.1)
          clear hown hne hgs hrf
          by_cases hkn : k < m
          · obtain ⟨⟨K1, P1⟩, htk⟩ : ∃ t, (fs.take m)[k]? = some t := ⟨_, List.getElem?_eq_getElem (by have := HTL.out; omega)⟩
            have hnef : fs.take m ≠ [] := by intro e; rw [e] at htk; simp at htk
            obtain ⟨aa', ca', e1, -, hc1⟩ := (HFT.out.keep HOWN.out.kp).ex
            injection e1 with e1a e1b e1c
            subst e1a e1c
            obtain ⟨g1, rfl, hcell1⟩ := hc1 hnef
            obtain ⟨u1, b0, b1, t1⟩ := hcell1 k _ htk
            simp only at b0 t1
            obtain ⟨o2, l2, rfl, -, -, -⟩ := t1.open3
            obtain ⟨L2, hL2⟩ : ∃ L, L = P1.length := ⟨_, rfl⟩
            rw [← hL2] at b1 t1
            have HTK := Lib.hid htk; have HT1 := Lib.hid t1
            obtain ⟨WA, hWA⟩ : ∃ WA, WA = wx.alloc (.cells #[.int .i64 (K1 : Nat), .slice o2 L2 l2] 48) := ⟨_, rfl⟩
            have HWA := Lib.hid hWA
            have HKA : Hid (Kp wx WA) := Lib.hid (by rw [hWA]; exact kp_alloc wx _)
            have hbA : Blk WA wx.heap.size 48 #[.int .i64 (K1 : Nat), .slice o2 L2 l2] := by rw [hWA]; exact Blk.new wx _ _
            have HBA := Lib.hid hbA
            have RBA := Lib.hid (HROW.out.keep HKA.out)
            have GSM : Hid (gs.length ≤ 1000000) := Lib.hid (by have := rdL_len _ _ HGS.out; rw [List.length_take] at this; have := HTL.out; omega)
            clear hcell1 hc1 htk e1b t1 hL2 hnef hrow hWA hbA
            go_wp2_with fail
            rw [← HWA.out]
            refine (rfile_any (HT1.out.keep HKA.out)).mono ?_
            rintro e w2 ⟨FL, rfl, hfx, hfl, hk2⟩
            have HFX := Lib.hid hfx; have HLT := Lib.hid hfl
            have HK2A := Lib.hid (Kp.trans HKA.out hk2)
            have vb2 := RBA.out.keep hk2
            have HRW : Hid (vb < w2.heap.size) := Lib.hid vb2.lt
            have HBA2 := Lib.hid (HBA.out.keep hk2)
            obtain ⟨S1, hS1⟩ : ∃ S, S = st FL.1 := ⟨_, rfl⟩
            obtain ⟨S2, hS2⟩ : ∃ S, S = st FL.2 := ⟨_, rfl⟩
            have HE1 := Lib.hid hS1; have HE2 := Lib.hid hS2
            rw [← hS1, ← hS2]
            obtain ⟨WB, hWB⟩ : ∃ WB, WB = w2.alloc (.cells #[.string S1, .string S2] 55) := ⟨_, rfl⟩
            have HKB : Hid (Kp w2 WB) := Lib.hid (by rw [hWB]; exact kp_alloc w2 _)
            have HWB := Lib.hid hWB
            have hbB : Blk WB w2.heap.size 55 #[.string S1, .string S2] := by rw [hWB]; exact Blk.new _ _ _
            have VBB := Lib.hid (vb2.keep HKB.out)
            have c0 := (HBA2.out.keep HKB.out).cell 0 rfl
            have rbB := RB1.out.keep (Kp.trans HOWN.out.kp (Kp.trans HK2A.out HKB.out))
            have r0 := rbB.cell 0 rfl; have f0 := rbB.free 0
            have HRBB := Lib.hid rbB
            have HKXB : Hid (Kp w1 WB) := Lib.hid (Kp.trans HOWN.out.kp (Kp.trans HK2A.out HKB.out))
            rw [hWB] at c0 r0 f0
            obtain ⟨ok, hok⟩ : ∃ ok, ok = (rdF P1).isSome := ⟨_, rfl⟩
            have HOK := Lib.hid hok
            rw [← hok]
            clear b0 b1 hk2 vb2 hS1 hS2 hWB hfx hfl hok rbB
            by_cases hK1 : K1 = 1
            · have hy1 : ((K1 : Int) == 1) = true := by rw [beq_iff_eq]; omega
              have hy2 : ((K1 : Int) != 1) = false := by rw [bne_eq_false_iff_eq]; omega
              have HK11 : Hid (K1 = 1) := Lib.hid hK1
              clear hK1
              cases ok with
              | true =>
                have HR1 : Hid (rdF P1 = some FL) := Lib.hid (by
                  obtain ⟨x, hx⟩ := Option.isSome_iff_exists.1 HOK.out.symm
                  rw [hx, HFX.out x hx])
                have hz : WB.heap.size = w2.heap.size + 1 := by rw [HWB.out]; simp
                have v0 := VBB.out.cell 0 rfl; have vf := VBB.out.free 0
                have d0 := hbB.cell 0 rfl; have d1 := hbB.cell 1 rfl
                have HKC : Hid (Kp WB (WB.alloc (.cells #[.string S1, .string S2] 55))) := Lib.hid (kp_alloc WB _)
                have HBC : Hid (Blk (WB.alloc (.cells #[.string S1, .string S2] 55)) (w2.heap.size + 1) 55 #[.string (st FL.1), .string (st FL.2)]) := Lib.hid (by rw [← hz, ← HE1.out, ← HE2.out]; exact Blk.new _ _ _)
                have HOC : Hid (OwF w1 (WB.alloc (.cells #[.string S1, .string S2] 55)) (.slice oa ol oc) gs) := Lib.hid (HOWN.out.keep (Kp.trans HK2A.out (Kp.trans HKB.out HKC.out)))
                have RBC : Hid (Blk (WB.alloc (.cells #[.string S1, .string S2] 55)) vb 28 #[.slice oa ol oc]) := Lib.hid (VBB.out.keep HKC.out)
                have HGS2 : Hid (rdL ((fs.take m).take (k + 1)) = some (gs ++ [FL])) := Lib.hid (by
                  rw [List.take_add_one, HTK.out]
                  exact rdL_snoc _ _ _ _ HGS.out HK11.out HR1.out)
                rw [HWB.out] at HBC HOC RBC v0 vf d0 d1
                clear hbB hz r0 f0
                go_wp2_with (at_builtin; refine wpList_fl (w := w1) rfl (.tmp 65) (.tmp 67) rfl _ rfl HOC.out GSM.out FL HLT.out (w2.heap.size + 1) rfl HBC.out ?_)
                intro v5 w5 hown5 hg5 hb5
                obtain ⟨⟨oa5, ol5, oc5, hv5⟩, -⟩ := row_form hown5.owns
                subst hv5
                have vb5 := RBC.out.by hg5 (fun e => HNE.out vb e.symm rfl)
                have HNE5 : Hid (∀ b, (Value.slice oa5 ol5 oc5).ownBlock = some b → b ≠ vb) := Lib.hid (by
                  intro b hb e
                  subst e
                  rcases hb5 with h | h
                  · exact HNE.out _ (h ▸ hb) rfl
                  · rw [h] at hb
                    have h1 := Option.some.inj hb
                    have h2 := HRW.out
                    omega)
                have v0 := vb5.cell 0 rfl; have vf := vb5.free 0
                have VB5 := Lib.hid vb5; have HO5 := Lib.hid hown5
                clear hown5 hg5 hb5 vb5 d0 d1 c0
                go_wp2_with fail
                obtain ⟨w6, hw6⟩ : ∃ w6, w6 = w5.setCell ⟨vb, 0, none⟩ (.slice oa5 ol5 oc5) := ⟨_, rfl⟩
                rw [← hw6]
                have o6 : Only vb w5 w6 := by rw [hw6]; exact (Only.refl vb w5).set 0 _
                have vb6 : Blk w6 vb 28 #[.slice oa5 ol5 oc5] := by rw [hw6]; exact VB5.out.set 0 _
                have HO6 := Lib.hid (HO5.out.only o6 GV.out HNE5.out); have VB6 := Lib.hid vb6
                clear hw6 o6 vb6 v0 vf
                go_roundw
                case rel =>
                  exact ⟨k + 1, gs ++ [FL], _, by go_num, by omega, HGS2.out, HO6.out, VB6.out, HNE5.out⟩
                case measure => simp [intOf]; omega
              | false =>
                have HR1 : Hid (rdL (fs.take m) = none) := Lib.hid (rdL_bad _ k _ HTK.out (.inr (Option.isNone_iff_eq_none.1 (by rw [← Option.not_isSome, ← HOK.out]; rfl))))
                clear hbB
                go_wp2_with fail
                exact BADR.out _ _ WB rfl rfl rfl HKXB.out (by rw [HWB.out]) HR1.out
            · have hy1 : ((K1 : Int) == 1) = false := beq_eq_false_iff_ne.2 (by omega)
              have hy2 : ((K1 : Int) != 1) = true := by rw [bne_iff_ne]; omega
              have HR1 : Hid (rdL (fs.take m) = none) := Lib.hid (rdL_bad _ k _ HTK.out (.inl hK1))
              clear hK1 hbB
              go_wp2_with fail
              exact BADR.out _ _ WB rfl rfl rfl HKXB.out (by rw [HWB.out]) HR1.out
          · obtain rfl : k = m := by omega
            have hrm : rdL (fs.take k) = some gs := by
              have h := HGS.out
              rw [List.take_take, Nat.min_self] at h
              exact h
            have hgl := rdL_len _ _ hrm
            have holm : ol = k := by rw [HOL.out, hgl, HTL.out]
            have HD2 : Hid (dec fs 0 = if isN PL k = false then (6, []) else if chk gs ≠ 0 then (chk gs, []) else (0, gs)) := Lib.hid (by rw [HD1.out, hrm])
            obtain ⟨⟨n1, p1, e1⟩, hr1⟩ : ∃ r, rd PL ((0 : Nat) : Int) = r := ⟨_, rfl⟩
            have hisn : isN PL k = (decide (n1 = k) && (decide (e1 = 0) && decide (p1 = L))) := by
              unfold isN
              rw [HLL.out]
              have e0 : ((0 : Nat) : Int) = 0 := rfl
              rw [e0] at hr1
              rw [hr1]
            rw [hisn] at HD2
            have HSX := Lib.hid (HS1.out.keep HOWN.out.kp)
            have HUI := Lib.hid (rUint_at HSX.out ((0 : Nat) : Int) (by omega) hr1)
            have c1 := cell_kept HA1.out HOWN.out.kp
            have rbx := RB1.out.keep HOWN.out.kp
            have r0 := rbx.cell 0 rfl; have f0 := rbx.free 0
            have v0 := HROW.out.cell 0 rfl
            have RBX := Lib.hid rbx
            have HKX : Hid (Kp w wx) := Lib.hid (Kp.trans HK1.out HOWN.out.kp)
            have HRW := Lib.hid HOWN.out.rw
            have hwm : IntKind.u64.wrap (k : Int) = (k : Int) := by rw [IntKind.wrap_u64]; omega
            have HUB : Hid (∀ b, (Value.slice oa k oc).ownBlock = some b → b ≠ rb) := Lib.hid (fun b hb e => by
              have h1 := (HRF.out b (by cases oa <;> first | exact hb | exact hb)).1
              have h2 := RB1.out.lt
              omega)
            subst holm
            clear hrow hr1 hisn hrm hgl rbx
            by_cases he1 : e1 = 0
            · subst he1
              by_cases hp1 : p1 = L
              · subst hp1
                have q1 : ((p1 : Int) != (p1 : Int)) = false := by simp
                by_cases hn1 : n1 = ol
                · subst hn1
                  have q2 : ((n1 : Int) != (n1 : Int)) = false := by simp
                  have HD3 : Hid (dec fs 0 = if chk gs ≠ 0 then (chk gs, []) else (0, gs)) := Lib.hid (by rw [HD2.out]; simp)
                  have HCK := Lib.hid (rCheck_any HRW.out)
                  obtain ⟨er, her⟩ : ∃ er, er = chk gs := ⟨_, rfl⟩
                  rw [← her] at HD3 HCK
                  clear her
                  go_wp2_with fail
                  refine HUI.out.mono ?_
                  rintro e w2 ⟨rfl, rfl⟩
                  go_wp2_with fail
                  refine HCK.out.mono ?_
                  rintro e w4 ⟨rfl, hk4⟩
                  have HK4 := Lib.hid (Kp.trans HKX.out hk4)
                  have rb4 := RBX.out.keep hk4
                  have HR4 := Lib.hid (HRW.out.keep hk4)
                  have z0 := cell_kept v0 hk4
                  have r0 := rb4.cell 0 rfl; have f0 := rb4.free 0
                  have RB4 := Lib.hid rb4
                  clear hk4 rb4
                  by_cases he : er = 0
                  · subst he
                    have HD : Hid (dec fs 0 = (0, gs)) := Lib.hid (by rw [HD3.out]; simp)
                    go_wp2_with fail
                    exact FIN.out _ _ w4 _ 0 gs rfl rfl rfl ⟨_, RB4.out⟩ rfl HD.out (fun W' ho => HR4.out.only ho HUB.out) HK4.out
                  · have hy1 : ((er : Int) == 0) = false := beq_eq_false_iff_ne.2 (by omega)
                    have hy2 : ((er : Int) != 0) = true := by rw [bne_iff_ne]; omega
                    have HD : Hid (dec fs 0 = (er, [])) := Lib.hid (by rw [HD3.out, if_pos he])
                    clear he
                    go_wp2_with fail
                    exact FIN.out _ _ w4 _ er [] rfl rfl rfl ⟨_, RB4.out⟩ rfl HD.out (NIL.out w4) HK4.out
                · have q2 : ((n1 : Int) != (ol : Int)) = true := by rw [bne_iff_ne]; omega
                  have HD : Hid (dec fs 0 = (6, [])) := Lib.hid (by rw [HD2.out]; simp [hn1])
                  clear hn1
                  go_wp2_with fail
                  refine HUI.out.mono ?_
                  rintro e w2 ⟨rfl, rfl⟩
                  go_wp2_with fail
                  exact FIN.out _ _ wx _ 6 [] rfl rfl rfl ⟨_, RBX.out⟩ rfl HD.out (NIL.out wx) HKX.out
              · have q1 : ((p1 : Int) != (L : Int)) = true := by rw [bne_iff_ne]; omega
                have HD : Hid (dec fs 0 = (6, [])) := Lib.hid (by rw [HD2.out]; simp [hp1])
                clear hp1
                go_wp2_with fail
                refine HUI.out.mono ?_
                rintro e w2 ⟨rfl, rfl⟩
                go_wp2_with fail
                exact FIN.out _ _ wx _ 6 [] rfl rfl rfl ⟨_, RBX.out⟩ rfl HD.out (NIL.out wx) HKX.out
            · have q0 : ((e1 : Int) != 0) = true := by rw [bne_iff_ne]; omega
              have q0' : ((e1 : Int) == 0) = false := beq_eq_false_iff_ne.2 (by omega)
              have HD : Hid (dec fs 0 = (6, [])) := Lib.hid (by rw [HD2.out]; simp [he1])
              clear he1
              go_wp2_with fail
              refine HUI.out.mono ?_
              rintro e w2 ⟨rfl, rfl⟩
              go_wp2_with fail
              exact FIN.out _ _ wx _ 6 [] rfl rfl rfl ⟨_, RBX.out⟩ rfl HD.out (NIL.out wx) HKX.out
      · have hx1 : ((K : Int) == 2) = false := beq_eq_false_iff_ne.2 (by omega)
        have hx2 : ((K : Int) != 2) = true := by rw [bne_iff_ne]; omega
        have HD : Hid (dec fs 0 = (7, [])) := Lib.hid (by rw [HDK.out, if_pos hK])
        clear hK
        go_wp2_with fail
        exact FIN.out _ _ w1 _ 7 [] rfl rfl rfl ⟨_, RB1.out⟩ rfl HD.out (NIL.out w1) HK1.out
  · have hx1 : ((E : Int) == 0) = false := beq_eq_false_iff_ne.2 (by omega)
    have hx2 : ((E : Int) != 0) = true := by rw [bne_iff_ne]; omega
    have HD : Hid (dec fs E = (E, [])) := Lib.hid (by unfold dec; rw [if_pos hE])
    clear hE
    go_wp2_with fail
    exact FIN.out _ _ w1 _ E [] rfl rfl rfl ⟨_, RB1.out⟩ rfl HD.out (NIL.out w1) HK1.out
end By
end Go.Proofs.YtmkijkaabcgcbaaGreatDoor
