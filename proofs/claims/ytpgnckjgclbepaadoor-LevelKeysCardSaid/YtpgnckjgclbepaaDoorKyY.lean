/- The reference's Set, Key and Keys. Condition: at most nine hundred keys. -/
import Derived.Test.YtpgnckjgclbepaaDoorKyX
namespace Go.Proofs.YtpgnckjgclbepaaDoor
namespace By
open Go.RowKit WireN LexN RevN KeyN
set_option linter.unusedVariables false
set_option linter.unusedSimpArgs false

set_option maxRecDepth 100000 in
set_option maxHeartbeats 4000000 in
theorem rSet_any {w : World} {v : Value} {ks : List Ky} (hs : Kw w v ks) (hl : ks.length ≤ 900) :
    Calls Tryd.prog 27 #[v] w fun e w' => ∃ u, e = .returned u ∧ OwK w w' u (setK ks) := by
  obtain ⟨ao, cap, rfl, hcap, -, -⟩ := hs.open3
  obtain ⟨n, hn⟩ : ∃ n, n = ks.length := ⟨_, rfl⟩
  rw [← hn] at hs hl hcap ⊢
  have HS := Lib.hid hs; have HN := Lib.hid hn
  have i1 : (n : Int) ≤ (cap : Int) := by omega
  have i2 : (n : Int) ≤ 900 := by omega
  obtain ⟨zs, hzs⟩ : ∃ zs, zs = setK ks := ⟨_, rfl⟩
  rw [← hzs]
  have HZS := Lib.hid hzs
  clear hs hn hcap hzs hl
  go_enter Tryd.func27, Tryd.ntmps27
  go_wp2_with fail
  go_loopw [3, 8] (fun o s wr => ∃ (i : Nat) (vo : Value), s = .int .i64 (i : Nat) ∧ o = vo ∧ i ≤ n ∧ OwK w wr vo ((ks.take i).foldl insK [])) (fun _ s _ => n - (intOf s).toNat)
  case atStart => exact ⟨0, _, rfl, rfl, Nat.zero_le _, OwK.start w⟩
  case round =>
    obtain ⟨i, vo, rfl, rfl, hin, hown⟩ := hrel
    rename World => wx
    have HO := Lib.hid hown
    obtain ⟨⟨oa, ol, oc, rfl⟩, -⟩ := row_frm hown.owns
    clear hown
    by_cases hlt : i < n
    · obtain ⟨x, hx⟩ : ∃ x, ks[i]? = some x := ⟨_, List.getElem?_eq_getElem (by have := HN.out; omega)⟩
      have hxo : KyOk x := HS.out.ok x (List.mem_of_getElem? hx)
      obtain ⟨b, off, rfl, hcell⟩ := (HS.out.keep HO.out.kp).cell (by omega)
      obtain ⟨c0, c1, c2⟩ := hcell i x hx
      have j1 : (i : Int) < (n : Int) := by omega
      have hlen : ((ks.take i).foldl insK []).length ≤ 900 := by
        have := foldl_len (ks.take i) []
        rw [List.length_take] at this
        simp at this
        omega
      have HIN := Lib.hid (rInsert_any (HO.out.keep (kp_alloc wx (.cells #[.int .i64 x.1, .string (st x.2.1), .string (st x.2.2)] 29))) hxo hlen)
      have HST : Hid ((ks.take (i + 1)).foldl insK [] = insK ((ks.take i).foldl insK []) x) := Lib.hid (by rw [List.take_add_one, hx, List.foldl_append]; rfl)
      obtain ⟨x1, x2, x3⟩ := x
      simp only [vK] at HIN c0 c1 c2
      clear hx hxo hcell hlen
      go_wp2_with fail
      refine HIN.out.mono ?_
      rintro e w2 ⟨v', rfl, ho2⟩
      rw [← HST.out] at ho2
      have HO2 := Lib.hid ho2
      obtain ⟨⟨va, vl, vc, rfl⟩, -⟩ := row_frm ho2.owns
      clear ho2
      go_wp2_with fail
      go_roundw
      case rel => exact ⟨i + 1, _, by go_num, rfl, by omega, HO2.out⟩
      case measure => simp [intOf]; omega
    · obtain rfl : i = n := by omega
      have HF : Hid ((ks.take i).foldl insK [] = zs) := Lib.hid (by rw [HZS.out, List.take_of_length_le (by have := HN.out; omega)]; rfl)
      rw [HF.out] at HO
      clear hlt
      go_wp2_with fail
      go_ret
      exact ⟨_, rfl, HO.out⟩
set_option maxRecDepth 100000 in
set_option maxHeartbeats 8000000 in
theorem rKey_any {x : Ky} (hx : KyOk x) (n : Int) (w : World) : Calls Tryd.prog 14 #[vK x, .int .i64 n] w fun e w' => e = .returned (.tuple #[vK (keyR n x), .int .i64 (keyE n x : Nat)]) ∧ Kp w w' := by
  have HE : Hid (keyE n x = if n < 1 ∨ 3 < n then 3 else if chkK x = true then 0 else 1) := Lib.hid rfl
  have HR : Hid (keyR n x = if keyE n x = 0 then upK n.toNat x else (0, [], [])) := Lib.hid rfl
  obtain ⟨E, hE⟩ : ∃ E, E = keyE n x := ⟨_, rfl⟩
  obtain ⟨R, hR⟩ : ∃ R, R = keyR n x := ⟨_, rfl⟩
  rw [← hE] at HE HR ⊢
  rw [← hR] at HR ⊢
  clear hE hR
  obtain ⟨W0, hW0⟩ : ∃ W, W = (w.alloc (.cells #[.int .i64 x.1, .string (st x.2.1), .string (st x.2.2)] 29)).alloc (.cells #[.int .i64 0, .string ⟨#[]⟩, .string ⟨#[]⟩] 29) := ⟨_, rfl⟩
  have HW0 := Lib.hid hW0
  have HK0 : Hid (Kp w W0) := Lib.hid (by rw [hW0]; exact Kp.alloc (kp_alloc _ _) _)
  have HC := Lib.hid (rCheck_any hx (w := W0))
  have b1 : Blk W0 w.heap.size 29 #[.int .i64 x.1, .string (st x.2.1), .string (st x.2.2)] := by rw [hW0]; exact (Blk.new _ _ _).keep (kp_alloc _ _)
  have b2 : Blk W0 (w.heap.size + 1) 29 #[.int .i64 0, .string ⟨#[]⟩, .string ⟨#[]⟩] := by
    have := Blk.new (w.alloc (.cells #[.int .i64 x.1, .string (st x.2.1), .string (st x.2.2)] 29)) 29 #[.int .i64 0, .string ⟨#[]⟩, .string ⟨#[]⟩]
    rw [hW0]
    simpa using this
  have B1 := Lib.hid b1; have B2 := Lib.hid b2
  have FIN : Hid (∀ (W : World) (cs : Array Value) (y : Ky) (e : Nat) (a : Act), Blk W (w.heap.size + 1) 29 cs → cs.size = 3 → Kp w W → a.defers = [] → a.tmps.getD 4 undef = .pointer (some ⟨w.heap.size + 1, 0, none⟩) → a.tmps.getD 5 undef = .int .i64 (e : Nat) → y = R → e = E →
      bodyPost Tryd.prog Tryd.f14 (fun e w' => e = .returned (.tuple #[vK R, .int .i64 (E : Nat)]) ∧ Kp w w') .ret a (((W.setCell ⟨w.heap.size + 1, 0, none⟩ (.int .i64 y.1)).setCell ⟨w.heap.size + 1, 1, none⟩ (.string (st y.2.1))).setCell ⟨w.heap.size + 1, 2, none⟩ (.string (st y.2.2)))) := Lib.hid (by
    intro W cs y e a hb hsz hk h0 h4 h5 hy he
    have b3 := ((hb.set 0 (.int .i64 y.1)).set 1 (.string (st y.2.1))).set 2 (.string (st y.2.2))
    obtain ⟨u0, u1, u2, rfl⟩ : ∃ u0 u1 u2, cs = #[u0, u1, u2] := by
      rcases cs with ⟨l⟩
      match l, hsz with
      | [a, b, c], _ => exact ⟨a, b, c, rfl⟩
    have e0 := b3.cell 0 (v := .int .i64 y.1) rfl
    have e1 := b3.cell 1 (v := .string (st y.2.1)) rfl
    have e2 := b3.cell 2 (v := .string (st y.2.2)) rfl
    have h4' : a.tmps[4]?.getD undef = .pointer (some ⟨w.heap.size + 1, 0, none⟩) := by simpa using h4
    have h5' : a.tmps[5]?.getD undef = .int .i64 (e : Nat) := by simpa using h5
    refine bodyPost_ret (v := .tuple #[vK y, .int .i64 (e : Nat)]) (by simp [results, Tryd.results14, go_sem, h4', h5', e0, e1, e2, vK]) h0 ?_
    exact ⟨by rw [hy, he], Only.kp hk ((((Only.refl (w.heap.size + 1) W).set 0 _).set 1 _).set 2 _) (by omega)⟩)
  by_cases hn : 1 ≤ n ∧ n ≤ 3
  · have c0 : W0.cell? ⟨w.heap.size, 0, none⟩ = some (.int .i64 x.1) := b1.cell 0 rfl
    have c1 : W0.cell? ⟨w.heap.size, 1, none⟩ = some (.string (st x.2.1)) := b1.cell 1 rfl
    have c2 : W0.cell? ⟨w.heap.size, 2, none⟩ = some (.string (st x.2.2)) := b1.cell 2 rfl
    rw [hW0] at c0 c1 c2
    have hn1 : (1 : Int) ≤ n := hn.1
    have hn3 : n ≤ (3 : Int) := hn.2
    by_cases hq : chkK x = true
    · rw [hq] at HC
      have HEV : Hid (0 = E) := Lib.hid (by rw [HE.out, if_neg (by omega), if_pos hq])
      have HRV : Hid (R = upK n.toNat x) := Lib.hid (by rw [HR.out, if_pos HEV.out.symm])
      clear b1 b2 hW0 hx HE HR hq
      obtain ⟨k, a, b⟩ := x
      simp only at HC HRV c0 c1 c2 B1
      simp only [vK]
      by_cases hkk : k = 1 ∨ k = 2 ∨ k = 6
      · obtain rfl | rfl | rfl : n = 1 ∨ n = 2 ∨ n = 3 := by omega
        all_goals
          clear hn hn1 hn3
          rcases hkk with rfl | rfl | rfl
        all_goals
          have hy := HRV.out
          simp [upK] at hy
          have HY := Lib.hid hy
          clear hy
          go_enter Tryd.func14, Tryd.ntmps14
          go_wp2_with fail
          rw [← HW0.out]
          refine HC.out.mono ?_
          rintro e w1 ⟨rfl, hk1⟩
          have HK1 := Lib.hid hk1
          have bb := B1.out.keep hk1
          have p0 := bb.cell 0 rfl; have p1 := bb.cell 1 rfl; have p2 := bb.cell 2 rfl
          have rr := B2.out.keep hk1
          have d0 := rr.cell 0 rfl; have d1 := rr.cell 1 rfl; have d2 := rr.cell 2 rfl
          have f0 := rr.free 0; have f1 := rr.free 1; have f2 := rr.free 2
          clear hk1 bb rr c0 c1 c2
          go_wp2_with fail
          first
            | exact FIN.out w1 _ (6, a, []) 0 _ (B2.out.keep HK1.out) rfl (Kp.trans HK0.out HK1.out) rfl rfl rfl HY.out.symm HEV.out
            | exact FIN.out w1 _ (7, a, []) 0 _ (B2.out.keep HK1.out) rfl (Kp.trans HK0.out HK1.out) rfl rfl rfl HY.out.symm HEV.out
            | exact FIN.out w1 _ (_, a, b) 0 _ (B2.out.keep HK1.out) rfl (Kp.trans HK0.out HK1.out) rfl rfl rfl HY.out.symm HEV.out
      · have HY : Hid (R = (k, a, b)) := Lib.hid (by
          rw [HRV.out]
          unfold upK
          rw [if_neg (by rintro ⟨-, h | h⟩ <;> exact hkk (by omega)), if_neg (by rintro ⟨-, h | h | h⟩ <;> exact hkk (by omega))])
        have h1 : (k == 1) = false := beq_eq_false_iff_ne.2 (by omega)
        have h2 : (k == 2) = false := beq_eq_false_iff_ne.2 (by omega)
        have h6 : (k == 6) = false := beq_eq_false_iff_ne.2 (by omega)
        obtain rfl | rfl | rfl : n = 1 ∨ n = 2 ∨ n = 3 := by omega
        all_goals
          clear hn hn1 hn3 hkk
          go_enter Tryd.func14, Tryd.ntmps14
          go_wp2_with fail
          rw [← HW0.out]
          refine HC.out.mono ?_
          rintro e w1 ⟨rfl, hk1⟩
          have HK1 := Lib.hid hk1
          have bb := B1.out.keep hk1
          have p0 := bb.cell 0 rfl; have p1 := bb.cell 1 rfl; have p2 := bb.cell 2 rfl
          have rr := B2.out.keep hk1
          have d0 := rr.cell 0 rfl; have d1 := rr.cell 1 rfl; have d2 := rr.cell 2 rfl
          have f0 := rr.free 0; have f1 := rr.free 1; have f2 := rr.free 2
          clear hk1 bb rr c0 c1 c2
          go_wp2_with fail
          exact FIN.out w1 _ (k, a, b) 0 _ (B2.out.keep HK1.out) rfl (Kp.trans HK0.out HK1.out) rfl rfl rfl HY.out.symm HEV.out
    · have hq : chkK x = false := by simpa using hq
      rw [hq] at HC
      have HEV : Hid (1 = E) := Lib.hid (by rw [HE.out, if_neg (by omega), if_neg (by rw [hq]; simp)])
      have HRV : Hid (((0, [], []) : Ky) = R) := Lib.hid (by rw [HR.out, if_neg (by rw [← HEV.out]; omega)])
      clear b1 b2 hW0 hx HE HR hq hn
      obtain ⟨k, a, b⟩ := x
      simp only at HC c0 c1 c2
      simp only [vK]
      go_enter Tryd.func14, Tryd.ntmps14
      go_wp2_with fail
      rw [← HW0.out]
      refine HC.out.mono ?_
      rintro e w1 ⟨rfl, hk1⟩
      have HK1 := Lib.hid hk1
      have rr := B2.out.keep hk1
      have d0 := rr.cell 0 rfl; have d1 := rr.cell 1 rfl; have d2 := rr.cell 2 rfl
      have f0 := rr.free 0; have f1 := rr.free 1; have f2 := rr.free 2
      clear hk1 rr c0 c1 c2
      go_wp2_with fail
      exact FIN.out w1 _ (0, [], []) 1 _ (B2.out.keep HK1.out) rfl (Kp.trans HK0.out HK1.out) rfl rfl rfl HRV.out HEV.out
  · have HEV : Hid (3 = E) := Lib.hid (by rw [HE.out, if_pos (by omega)])
    have HRV : Hid (((0, [], []) : Ky) = R) := Lib.hid (by rw [HR.out, if_neg (by rw [← HEV.out]; omega)])
    have d0 := b2.cell 0 rfl; have d1 := b2.cell 1 rfl; have d2 := b2.cell 2 rfl
    have f0 := b2.free 0; have f1 := b2.free 1; have f2 := b2.free 2
    rw [hW0] at d0 d1 d2 f0 f1 f2
    clear b1 b2 hW0 hx HE HR
    obtain ⟨k, a, b⟩ := x
    simp only at HC d0 d1 d2 f0 f1 f2
    simp only [vK]
    by_cases h1 : n < 1
    · clear hn
      go_enter Tryd.func14, Tryd.ntmps14
      go_wp2_with fail
      rw [← HW0.out]
      rw [← K3.self (x := ((0, [], []) : Ky)) B2.out ⟨B2.out.cell 0 rfl, B2.out.cell 1 rfl, B2.out.cell 2 rfl⟩]
      exact FIN.out W0 _ (0, [], []) 3 _ B2.out rfl HK0.out rfl rfl rfl HRV.out HEV.out
    · have h2 : (3 : Int) < n := by omega
      have h3 : (1 : Int) ≤ n := by omega
      clear hn h1
      go_enter Tryd.func14, Tryd.ntmps14
      go_wp2_with fail
      rw [← HW0.out]
      rw [← K3.self (x := ((0, [], []) : Ky)) B2.out ⟨B2.out.cell 0 rfl, B2.out.cell 1 rfl, B2.out.cell 2 rfl⟩]
      exact FIN.out W0 _ (0, [], []) 3 _ B2.out rfl HK0.out rfl rfl rfl HRV.out HEV.out
end By
end Go.Proofs.YtpgnckjgclbepaaDoor
