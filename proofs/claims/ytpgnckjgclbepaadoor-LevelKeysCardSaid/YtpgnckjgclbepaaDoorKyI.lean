/- The program's Key and Keys at a level. Conditions: a package variable of the library holds some integer, the table of levels lies as its text lays it; lists have at most twelve keys. -/
import Derived.Test.YtpgnckjgclbepaaDoorKyH
namespace Go.Proofs.YtpgnckjgclbepaaDoor
namespace By
open Go.RowKit WireN LexN RevN KeyN
set_option linter.unusedVariables false
set_option linter.unusedSimpArgs false

/-- The error of Key, and its key. -/
def keyE (n : Int) (x : Ky) : Nat := if n < 1 ∨ 3 < n then 3 else if chkK x = true then 0 else 1
def keyR (n : Int) (x : Ky) : Ky := if keyE n x = 0 then upK n.toNat x else (0, [], [])
theorem cons_len {p : Nat → Bool} {l : List Nat} (h : LexN.cons p l = true) : l.length ≤ 24 := by
  refine Decidable.byContradiction fun e => ?_
  rw [cons_long (by omega)] at h
  cases h
theorem name_len {l : List Nat} (h : nameB l = true) : l.length ≤ 24 := by
  refine Decidable.byContradiction fun e => ?_
  rw [name_long (by omega)] at h
  cases h
theorem path_len {l : List Nat} (h : pathB l = true) : l.length ≤ 80 := by
  refine Decidable.byContradiction fun e => ?_
  rw [path_longk (by omega)] at h
  cases h
theorem chk_len {x : Ky} (h : chkK x = true) : x.2.1.length ≤ 1000 ∧ x.2.2.length ≤ 1000 := by
  unfold chkK at h
  split at h
  · simp only [Bool.and_eq_true] at h
    have := name_len h.1; have := name_len h.2
    omega
  · split at h
    · simp only [Bool.and_eq_true, decide_eq_true_eq] at h
      have := path_len h.1
      rw [h.2]
      simp; omega
    · split at h
      · simp only [Bool.and_eq_true, decide_eq_true_eq] at h
        have := name_len h.1
        rw [h.2]
        simp; omega
      · cases h
theorem chk_ks {x : Ky} (hx : KyOk x) (h : chkK x = true) : KyS x := ⟨hx.1, chk_len h⟩
theorem up_ks {x : Ky} (h : KyS x) (n : Nat) : KyS (upK n x) := by
  unfold upK
  split
  · exact ⟨⟨h.1.1, Lt.nil⟩, h.2.1, by simp⟩
  · split
    · exact ⟨⟨h.1.1, Lt.nil⟩, h.2.1, by simp⟩
    · exact h
/-- What a cell holds. -/
def rc (w : World) (g i : Nat) : Value := (w.cell? ⟨g, i, none⟩).getD undef
theorem rc_of {w : World} {g i : Nat} {v : Value} (h : w.cell? ⟨g, i, none⟩ = some v) : w.cell? ⟨g, i, none⟩ = some (rc w g i) := by unfold rc; rw [h]; rfl
set_option maxRecDepth 100000 in
set_option maxHeartbeats 4000000 in
theorem Key_any {x : Ky} (hx : KyOk x) (n : Int) {w : World} (hm : MX w) (hc : CO w) : Calls Tryd.prog 13 #[vK x, .int .i64 n] w fun e w' => e = .returned (.tuple #[vK (keyR n x), .int .i64 (keyE n x : Nat)]) ∧ Kp w w' := by
  have HE : Hid (keyE n x = if n < 1 ∨ 3 < n then 3 else if chkK x = true then 0 else 1) := Lib.hid rfl
  have HR : Hid (keyR n x = if keyE n x = 0 then upK n.toNat x else (0, [], [])) := Lib.hid rfl
  obtain ⟨E, hE⟩ : ∃ E, E = keyE n x := ⟨_, rfl⟩
  obtain ⟨R, hR⟩ : ∃ R, R = keyR n x := ⟨_, rfl⟩
  rw [← hE] at HE HR ⊢
  rw [← hR] at HR ⊢
  clear hE hR
  obtain ⟨vx, hvx⟩ : ∃ vx, vx = vK x := ⟨_, rfl⟩
  obtain ⟨W0, hW0⟩ : ∃ W, W = (w.alloc (.cells #[.int .i64 x.1, .string (st x.2.1), .string (st x.2.2)] 29)).alloc (.cells #[.int .i64 0, .string ⟨#[]⟩, .string ⟨#[]⟩] 29) := ⟨_, rfl⟩
  have HW0 := Lib.hid hW0
  have HK0 : Hid (Kp w W0) := Lib.hid (by rw [hW0]; exact Kp.alloc (kp_alloc _ _) _)
  have HL := Lib.hid (isLevel_any n W0)
  have HC := Lib.hid (Check_any hx (hm.keep HK0.out))
  have HXO := Lib.hid hx
  have HCO := Lib.hid hc
  have b1 : Blk W0 w.heap.size 29 #[.int .i64 x.1, .string (st x.2.1), .string (st x.2.2)] := by rw [hW0]; exact (Blk.new _ _ _).keep (kp_alloc _ _)
  have b2 : Blk W0 (w.heap.size + 1) 29 #[.int .i64 0, .string ⟨#[]⟩, .string ⟨#[]⟩] := by
    have := Blk.new (w.alloc (.cells #[.int .i64 x.1, .string (st x.2.1), .string (st x.2.2)] 29)) 29 #[.int .i64 0, .string ⟨#[]⟩, .string ⟨#[]⟩]
    rw [hW0]
    simpa using this
  have B1 := Lib.hid b1; have B2 := Lib.hid b2
  -- what is stored in the result's memory, and the error
  have FIN : Hid (∀ (W : World) (cs : Array Value) (y : Ky) (e : Nat) (a : Act), Blk W (w.heap.size + 1) 29 cs → cs.size = 3 → Kp w W → a.defers = [] → a.tmps.getD 4 undef = .pointer (some ⟨w.heap.size + 1, 0, none⟩) → a.tmps.getD 5 undef = .int .i64 (e : Nat) → y = R → e = E →
      bodyPost Tryd.prog Tryd.f13 (fun e w' => e = .returned (.tuple #[vK R, .int .i64 (E : Nat)]) ∧ Kp w w') .ret a (((W.setCell ⟨w.heap.size + 1, 0, none⟩ (.int .i64 y.1)).setCell ⟨w.heap.size + 1, 1, none⟩ (.string (st y.2.1))).setCell ⟨w.heap.size + 1, 2, none⟩ (.string (st y.2.2)))) := Lib.hid (by
    intro W cs y e a hb hsz hk h0 h4 h5 hy he
    have b3 := ((hb.set 0 (.int .i64 y.1)).set 1 (.string (st y.2.1))).set 2 (.string (st y.2.2))
    obtain ⟨u0, u1, u2, rfl⟩ : ∃ u0 u1 u2, cs = #[u0, u1, u2] := by
      rcases cs with ⟨l⟩
      match l, hsz with
      | [a, b, c], _ => exact ⟨a, b, c, rfl⟩
    have e0 := b3.cell 0 (v := .int .i64 y.1) rfl
    have e1 := b3.cell 1 (v := .string (st y.2.1)) rfl
    have e2 := b3.cell 2 (v := .string (st y.2.2)) rfl
    have h4' : a.tmps[4]?.getD undef = .pointer (some ⟨w.heap.size + 1, 0, none⟩) := by simpa using h4
    have h5' : a.tmps[5]?.getD undef = .int .i64 (e : Nat) := by simpa using h5
    refine bodyPost_ret (v := .tuple #[vK y, .int .i64 (e : Nat)]) (by simp [results, Tryd.results13, go_sem, h4', h5', e0, e1, e2, vK]) h0 ?_
    exact ⟨by rw [hy, he], Only.kp hk ((((Only.refl (w.heap.size + 1) W).set 0 _).set 1 _).set 2 _) (by omega)⟩)
  by_cases hn : 1 ≤ n ∧ n ≤ 3
  · rw [decide_eq_true hn] at HL
    obtain ⟨m, rfl⟩ : ∃ m : Nat, n = (m : Int) := ⟨n.toNat, by omega⟩
    by_cases hq : chkK x = true
    · rw [hq] at HC
      have HEV : Hid (0 = E) := Lib.hid (by rw [HE.out, if_neg (by omega), if_pos hq])
      have HRV : Hid (upK m x = R) := Lib.hid (by rw [HR.out, if_pos HEV.out.symm, Int.toNat_natCast])
      have hks := up_ks (chk_ks HXO.out hq) m
      have HRA := Lib.hid (fun W (h : CO W) => raised_any x m (by omega) (by omega) h)
      obtain ⟨y, hy⟩ : ∃ y, y = upK m x := ⟨_, rfl⟩
      rw [← hy] at HRA HRV hks
      have CC : Hid (∀ S : ByteArray, (S = st y.2.1 ∨ S = st y.2.2) → ∀ W, Calls Tryd.prog 28 #[.string S] W fun e w' => e = .returned (.string S) ∧ Kp W w') := Lib.hid (fun S h W => by
        rcases h with rfl | rfl
        · exact Clone_k y.2.1 (by have := hks.2.1; omega) W
        · exact Clone_k y.2.2 (by have := hks.2.2; omega) W)
      have c0 : W0.cell? ⟨w.heap.size, 0, none⟩ = some (.int .i64 x.1) := b1.cell 0 rfl
      have c1 : W0.cell? ⟨w.heap.size, 1, none⟩ = some (.string (st x.2.1)) := b1.cell 1 rfl
      have c2 : W0.cell? ⟨w.heap.size, 2, none⟩ = some (.string (st x.2.2)) := b1.cell 2 rfl
      clear b1 b2 hW0 hm hc hx hvx vx HE HR hn hq hks hy
      obtain ⟨k, a, b⟩ := x
      simp only [vK] at HRA c0 c1 c2 ⊢
      go_enter Tryd.func13, Tryd.ntmps13
      go_wp2_with fail
      rw [← HW0.out]
      refine HL.out.mono ?_
      rintro e w1 ⟨rfl, rfl⟩
      go_wp2_with fail
      refine HC.out.mono ?_
      rintro e w1 ⟨rfl, hk1⟩
      have HK1 := Lib.hid hk1
      have bb := B1.out.keep hk1
      have p0 : w1.cell? ⟨w.heap.size, 0, none⟩ = some (.int .i64 k) := bb.cell 0 rfl
      have p1 : w1.cell? ⟨w.heap.size, 1, none⟩ = some (.string (st a)) := bb.cell 1 rfl
      have p2 : w1.cell? ⟨w.heap.size, 2, none⟩ = some (.string (st b)) := bb.cell 2 rfl
      clear hk1 bb c0 c1 c2
      go_wp2_with fail
      refine (HRA.out _ (HCO.out.keep (Kp.trans HK0.out HK1.out))).mono ?_
      rintro e w2 ⟨rfl, hk2⟩
      have HK2 := Lib.hid (Kp.trans HK1.out hk2)
      have bb := B1.out.keep HK2.out
      have q0 : w2.cell? ⟨w.heap.size, 0, none⟩ = some (.int .i64 k) := bb.cell 0 rfl
      have q1 : w2.cell? ⟨w.heap.size, 1, none⟩ = some (.string (st a)) := bb.cell 1 rfl
      have q2 : w2.cell? ⟨w.heap.size, 2, none⟩ = some (.string (st b)) := bb.cell 2 rfl
      have h0 := bb.free 0; have h1 := bb.free 1; have h2 := bb.free 2
      have bb3 := ((bb.set 0 (.int .i64 y.1)).set 1 (.string (st y.2.1))).set 2 (.string (st y.2.2))
      have o3 := (((Only.refl w.heap.size w2).set 0 (.int .i64 y.1)).set 1 (.string (st y.2.1))).set 2 (.string (st y.2.2))
      obtain ⟨y1, y2, y3⟩ := y
      simp only at HRV CC bb3 o3 ⊢
      obtain ⟨S2, hS2⟩ : ∃ S, S = st y2 := ⟨_, rfl⟩
      obtain ⟨S3, hS3⟩ : ∃ S, S = st y3 := ⟨_, rfl⟩
      rw [← hS2, ← hS3] at bb3 o3 CC ⊢
      have HS2 := Lib.hid hS2; have HS3 := Lib.hid hS3
      clear hk2 p0 p1 p2 hS2 hS3 bb
      obtain ⟨w3, hw3⟩ : ∃ w3, w3 = ((w2.setCell ⟨w.heap.size, 0, none⟩ (.int .i64 y1)).setCell ⟨w.heap.size, 1, none⟩ (.string S2)).setCell ⟨w.heap.size, 2, none⟩ (.string S3) := ⟨_, rfl⟩
      rw [← hw3] at bb3 o3
      have HW3 := Lib.hid hw3
      have HK3 := Lib.hid (Only.kp (Kp.trans HK0.out HK2.out) o3 (Nat.le_refl _))
      have b23 := (B2.out.keep HK2.out).other o3 (by omega)
      have FACT : Hid (∀ W, Kp w3 W → (W.cell? ⟨w.heap.size, 0, none⟩ = some (.int .i64 y1) ∧ W.cell? ⟨w.heap.size, 1, none⟩ = some (.string S2) ∧ W.cell? ⟨w.heap.size, 2, none⟩ = some (.string S3)) ∧
          (W.cell? ⟨w.heap.size + 1, 0, none⟩ = some (rc W (w.heap.size + 1) 0) ∧ W.cell? ⟨w.heap.size + 1, 1, none⟩ = some (rc W (w.heap.size + 1) 1) ∧ W.cell? ⟨w.heap.size + 1, 2, none⟩ = some (rc W (w.heap.size + 1) 2)) ∧
          W.frozen? ⟨w.heap.size + 1, 0, none⟩ = false ∧ W.frozen? ⟨w.heap.size + 1, 1, none⟩ = false ∧ W.frozen? ⟨w.heap.size + 1, 2, none⟩ = false) := Lib.hid (fun W hk =>
        ⟨⟨(bb3.keep hk).cell 0 rfl, (bb3.keep hk).cell 1 rfl, (bb3.keep hk).cell 2 rfl⟩, ⟨rc_of ((b23.keep hk).cell 0 rfl), rc_of ((b23.keep hk).cell 1 rfl), rc_of ((b23.keep hk).cell 2 rfl)⟩, (b23.keep hk).free 0, (b23.keep hk).free 1, (b23.keep hk).free 2⟩)
      have FACT2 : Hid (∀ W, Kp w3 W → ((((W.setCell ⟨w.heap.size + 1, 0, none⟩ (.int .i64 y1)).setCell ⟨w.heap.size + 1, 1, none⟩ (.string S2)).setCell ⟨w.heap.size + 1, 2, none⟩ (.string S3)).cell? ⟨w.heap.size, 0, none⟩ = some (.int .i64 y1) ∧ (((W.setCell ⟨w.heap.size + 1, 0, none⟩ (.int .i64 y1)).setCell ⟨w.heap.size + 1, 1, none⟩ (.string S2)).setCell ⟨w.heap.size + 1, 2, none⟩ (.string S3)).cell? ⟨w.heap.size, 1, none⟩ = some (.string S2) ∧ (((W.setCell ⟨w.heap.size + 1, 0, none⟩ (.int .i64 y1)).setCell ⟨w.heap.size + 1, 1, none⟩ (.string S2)).setCell ⟨w.heap.size + 1, 2, none⟩ (.string S3)).cell? ⟨w.heap.size, 2, none⟩ = some (.string S3)) ∧
          ((((W.setCell ⟨w.heap.size + 1, 0, none⟩ (.int .i64 y1)).setCell ⟨w.heap.size + 1, 1, none⟩ (.string S2)).setCell ⟨w.heap.size + 1, 2, none⟩ (.string S3)).cell? ⟨w.heap.size + 1, 0, none⟩ = some (rc (((W.setCell ⟨w.heap.size + 1, 0, none⟩ (.int .i64 y1)).setCell ⟨w.heap.size + 1, 1, none⟩ (.string S2)).setCell ⟨w.heap.size + 1, 2, none⟩ (.string S3)) (w.heap.size + 1) 0) ∧ (((W.setCell ⟨w.heap.size + 1, 0, none⟩ (.int .i64 y1)).setCell ⟨w.heap.size + 1, 1, none⟩ (.string S2)).setCell ⟨w.heap.size + 1, 2, none⟩ (.string S3)).cell? ⟨w.heap.size + 1, 1, none⟩ = some (rc (((W.setCell ⟨w.heap.size + 1, 0, none⟩ (.int .i64 y1)).setCell ⟨w.heap.size + 1, 1, none⟩ (.string S2)).setCell ⟨w.heap.size + 1, 2, none⟩ (.string S3)) (w.heap.size + 1) 1) ∧ (((W.setCell ⟨w.heap.size + 1, 0, none⟩ (.int .i64 y1)).setCell ⟨w.heap.size + 1, 1, none⟩ (.string S2)).setCell ⟨w.heap.size + 1, 2, none⟩ (.string S3)).cell? ⟨w.heap.size + 1, 2, none⟩ = some (rc (((W.setCell ⟨w.heap.size + 1, 0, none⟩ (.int .i64 y1)).setCell ⟨w.heap.size + 1, 1, none⟩ (.string S2)).setCell ⟨w.heap.size + 1, 2, none⟩ (.string S3)) (w.heap.size + 1) 2)) ∧
          (((W.setCell ⟨w.heap.size + 1, 0, none⟩ (.int .i64 y1)).setCell ⟨w.heap.size + 1, 1, none⟩ (.string S2)).setCell ⟨w.heap.size + 1, 2, none⟩ (.string S3)).frozen? ⟨w.heap.size + 1, 0, none⟩ = false ∧ (((W.setCell ⟨w.heap.size + 1, 0, none⟩ (.int .i64 y1)).setCell ⟨w.heap.size + 1, 1, none⟩ (.string S2)).setCell ⟨w.heap.size + 1, 2, none⟩ (.string S3)).frozen? ⟨w.heap.size + 1, 1, none⟩ = false ∧ (((W.setCell ⟨w.heap.size + 1, 0, none⟩ (.int .i64 y1)).setCell ⟨w.heap.size + 1, 1, none⟩ (.string S2)).setCell ⟨w.heap.size + 1, 2, none⟩ (.string S3)).frozen? ⟨w.heap.size + 1, 2, none⟩ = false) := Lib.hid (fun W hk => by
        have r3 := (((b23.keep hk).set 0 (.int .i64 y1)).set 1 (.string S2)).set 2 (.string S3)
        have o4 := (((Only.refl (w.heap.size + 1) W).set 0 (.int .i64 y1)).set 1 (.string S2)).set 2 (.string S3)
        have bb4 := (bb3.keep hk).other o4 (by omega)
        exact ⟨⟨bb4.cell 0 rfl, bb4.cell 1 rfl, bb4.cell 2 rfl⟩, ⟨rc_of (r3.cell 0 rfl), rc_of (r3.cell 1 rfl), rc_of (r3.cell 2 rfl)⟩, r3.free 0, r3.free 1, r3.free 2⟩)
      have B23 := Lib.hid b23
      clear bb3 o3 hw3 b23
      go_wp2_with fail
      rw [← HW3.out]
      go_region_held3 (fun w' => (w'.cell? ⟨w.heap.size, 0, none⟩ = some (.int .i64 y1) ∧ w'.cell? ⟨w.heap.size, 1, none⟩ = some (.string S2) ∧ w'.cell? ⟨w.heap.size, 2, none⟩ = some (.string S3)) ∧
          (w'.cell? ⟨w.heap.size + 1, 0, none⟩ = some (rc w' (w.heap.size + 1) 0) ∧ w'.cell? ⟨w.heap.size + 1, 1, none⟩ = some (rc w' (w.heap.size + 1) 1) ∧ w'.cell? ⟨w.heap.size + 1, 2, none⟩ = some (rc w' (w.heap.size + 1) 2)) ∧
          w'.frozen? ⟨w.heap.size + 1, 0, none⟩ = false ∧ w'.frozen? ⟨w.heap.size + 1, 1, none⟩ = false ∧ w'.frozen? ⟨w.heap.size + 1, 2, none⟩ = false)
        (first
          | exact FACT.out _ (Kp.refl _)
          | exact FACT.out _ (kp_drew _)
          | exact FACT.out _ hk3
          | exact FACT.out _ hk2
          | exact FACT2.out _ hk3
          | fail "no keep")
        (first
          | (go_at_call 28; have hk3q := hk2; refine (CC.out _ (by first | exact .inl rfl | exact .inr rfl) _).mono ?_; rintro e w5 ⟨rfl, hk3'⟩; have hk3 := Kp.trans hk2 hk3')
          | (go_at_call 28; refine (CC.out _ (by first | exact .inl rfl | exact .inr rfl) _).mono ?_; rintro e w4 ⟨rfl, hk2'⟩; have hk2 := Kp.trans (kp_drew w3) hk2')
          | fail "no arm")
      all_goals
        have HK5 := Lib.hid hk3
        clear hk3 hk2 hk2' hk3' hk3q
        go_wp2_with fail
        rw [HS2.out, HS3.out]
        exact FIN.out w5 _ (y1, y2, y3) 0 _ (B23.out.keep HK5.out) rfl (Kp.trans HK3.out HK5.out) rfl rfl rfl HRV.out HEV.out
    · have hq : chkK x = false := by simpa using hq
      rw [hq] at HC
      have HEV : Hid (1 = E) := Lib.hid (by rw [HE.out, if_neg (by omega), if_neg (by rw [hq]; simp)])
      have HRV : Hid (((0, [], []) : Ky) = R) := Lib.hid (by rw [HR.out, if_neg (by rw [← HEV.out]; omega)])
      have c0 : W0.cell? ⟨w.heap.size, 0, none⟩ = some (.int .i64 x.1) := b1.cell 0 rfl
      have c1 : W0.cell? ⟨w.heap.size, 1, none⟩ = some (.string (st x.2.1)) := b1.cell 1 rfl
      have c2 : W0.cell? ⟨w.heap.size, 2, none⟩ = some (.string (st x.2.2)) := b1.cell 2 rfl
      clear b1 b2 hW0 hm hc hx hvx vx HE HR hn hq
      obtain ⟨k, a, b⟩ := x
      simp only [vK] at c0 c1 c2 ⊢
      go_enter Tryd.func13, Tryd.ntmps13
      go_wp2_with fail
      rw [← HW0.out]
      refine HL.out.mono ?_
      rintro e w1 ⟨rfl, rfl⟩
      go_wp2_with fail
      refine HC.out.mono ?_
      rintro e w1 ⟨rfl, hk1⟩
      have HK1 := Lib.hid hk1
      have bb := B2.out.keep hk1
      have d0 := bb.cell 0 rfl; have d1 := bb.cell 1 rfl; have d2 := bb.cell 2 rfl
      have f0 := bb.free 0; have f1 := bb.free 1; have f2 := bb.free 2
      clear hk1 bb
      go_wp2_with fail
      exact FIN.out w1 _ (0, [], []) 1 _ (B2.out.keep HK1.out) rfl (Kp.trans HK0.out HK1.out) rfl rfl rfl HRV.out HEV.out
  · rw [decide_eq_false hn] at HL
    have HEV : Hid (3 = E) := Lib.hid (by rw [HE.out, if_pos (by omega)])
    have HRV : Hid (((0, [], []) : Ky) = R) := Lib.hid (by rw [HR.out, if_neg (by rw [← HEV.out]; omega)])
    have d0 := b2.cell 0 rfl; have d1 := b2.cell 1 rfl; have d2 := b2.cell 2 rfl
    have f0 := b2.free 0; have f1 := b2.free 1; have f2 := b2.free 2
    clear b1 b2 hW0 hm hc hx hvx vx HE HR hn
    obtain ⟨k, a, b⟩ := x
    simp only [vK] at ⊢
    go_enter Tryd.func13, Tryd.ntmps13
    go_wp2_with fail
    rw [← HW0.out]
    refine HL.out.mono ?_
    rintro e w1 ⟨rfl, rfl⟩
    go_wp2_with fail
    exact FIN.out W0 _ (0, [], []) 3 _ B2.out rfl HK0.out rfl rfl rfl HRV.out HEV.out
end By
end Go.Proofs.YtpgnckjgclbepaaDoor
