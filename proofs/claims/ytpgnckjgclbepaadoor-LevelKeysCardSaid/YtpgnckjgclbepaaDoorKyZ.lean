/- The reference's Keys. Condition: at most nine hundred keys. -/
import Derived.Test.YtpgnckjgclbepaaDoorKyY
namespace Go.Proofs.YtpgnckjgclbepaaDoor
namespace By
open Go.RowKit WireN LexN RevN KeyN
set_option linter.unusedVariables false
set_option linter.unusedSimpArgs false

set_option maxRecDepth 100000 in
set_option maxHeartbeats 4000000 in
theorem rKeys_any {v : Value} {ks : List Ky} (n : Int) {w : World} (hs : Kw w v ks) (hl : ks.length ≤ 900) :
    Calls Tryd.prog 9 #[v, .int .i64 n] w fun e w' => ∃ u, e = .returned (.tuple #[u, .int .i64 (keysE n ks : Nat)]) ∧ Kw w' u (keysL n ks) ∧ Kp w w' := by
  obtain ⟨Q, hQ⟩ : ∃ Q : Ending → World → Prop, Q = fun e w' => ∃ u, e = .returned (.tuple #[u, .int .i64 (keysE n ks : Nat)]) ∧ Kw w' u (keysL n ks) ∧ Kp w w' := ⟨_, rfl⟩
  have FIN : Hid (∀ (u : Value) (E : Nat) (W : World), E = keysE n ks → Kw W u (keysL n ks) → Kp w W → Q (.returned (.tuple #[u, .int .i64 (E : Nat)])) W) := Lib.hid (fun u E W h1 h2 h4 => by
    rw [hQ]
    exact ⟨u, by rw [h1], h2, h4⟩)
  have BAD : Hid (∀ (E : Nat) (W : World), E = keysE n ks → E ≠ 0 → Kp w W → Q (.returned (.tuple #[.slice none 0 0, .int .i64 (E : Nat)])) W) := Lib.hid (fun E W h1 h2 h3 => by
    refine FIN.out _ E W h1 ?_ h3
    have : keysL n ks = [] := by unfold keysL; rw [if_neg (by rw [← h1]; exact h2)]
    rw [this]
    exact Kw.nil _)
  rw [← hQ]
  obtain ⟨ao, cap, rfl, hcap, hmx, -⟩ := hs.open3
  have HS := Lib.hid hs
  obtain ⟨N, hN⟩ : ∃ N, N = ks.length := ⟨_, rfl⟩
  rw [← hN] at HS hl hcap ⊢
  have HN := Lib.hid hN
  have hci : (N : Int) ≤ (cap : Int) := by omega
  have hni : (N : Int) ≤ 900 := by omega
  clear hQ hs hN hcap hmx
  by_cases hn : 1 ≤ n ∧ n ≤ 3
  · obtain ⟨m, rfl⟩ : ∃ m : Nat, n = (m : Int) := ⟨n.toNat, by omega⟩
    have hm1 : 1 ≤ m := by omega
    have hm3 : m ≤ 3 := by omega
    have hmi1 : (1 : Int) ≤ (m : Int) := by omega
    have hmi3 : (m : Int) ≤ 3 := by omega
    have HE : Hid (keysE m ks = if ks.all chkK = true then 0 else 1) := Lib.hid (by unfold keysE; rw [if_neg (by omega)])
    clear hn
    go_enter Tryd.func9, Tryd.ntmps9
    go_wp2_with fail
    go_loopw [6, 19] (fun o i wr => ∃ (k : Nat) (vo : Value), i = .int .i64 (k : Nat) ∧ o = vo ∧ k ≤ N ∧ (ks.take k).all chkK = true ∧ OwK w wr vo ((ks.take k).map (upK m))) (fun _ i _ => N - (intOf i).toNat)
    case atStart => exact ⟨0, _, rfl, rfl, Nat.zero_le _, rfl, OwK.start w⟩
    case round =>
      obtain ⟨k, vo, rfl, rfl, hk, hall, hown⟩ := hrel
      rename World => wx
      have HALL := Lib.hid hall; have HOWN := Lib.hid hown
      obtain ⟨⟨oa, ol, oc, rfl⟩, -⟩ := row_frm hown.owns
      clear hall hown
      have HLEN : Hid (((ks.take k).map (upK m)).length = k) := Lib.hid (by rw [List.length_map, List.length_take]; have := HN.out; omega)
      by_cases hkn : k < N
      · obtain ⟨x, hx⟩ : ∃ x, ks[k]? = some x := ⟨_, List.getElem?_eq_getElem (by have := HN.out; omega)⟩
        have HX := Lib.hid hx
        have hxo : KyOk x := HS.out.ok x (List.mem_of_getElem? hx)
        obtain ⟨b, off, rfl, hcell⟩ := (HS.out.keep HOWN.out.kp).cell (by omega)
        obtain ⟨c0, c1, c2⟩ := hcell k x hx
        have hki : (k : Int) < (N : Int) := by omega
        have HK0 := Lib.hid (kp_alloc wx (.cells #[.int .i64 x.1, .string (st x.2.1), .string (st x.2.2)] 29))
        have HRK := Lib.hid (fun W => rKey_any hxo (m : Int) W)
        have HST : Hid (ks.take (k + 1) = ks.take k ++ [x]) := Lib.hid (by rw [List.take_add_one, hx]; rfl)
        have HXO := Lib.hid hxo
        by_cases hq : chkK x = true
        · have he : keyE m x = 0 := by unfold keyE; rw [if_neg (by omega), if_pos hq]
          have hr : keyR m x = upK m x := by unfold keyR; rw [if_pos he, Int.toNat_natCast]
          rw [he, hr] at HRK
          have HUP : Hid (KyOk (upK m x)) := Lib.hid (up_ks (chk_ks hxo hq) m).ok
          have HQ := Lib.hid hq
          obtain ⟨y, hy⟩ : ∃ y, y = upK m x := ⟨_, rfl⟩
          rw [← hy] at HRK HUP
          have HY := Lib.hid hy
          obtain ⟨x1, x2, x3⟩ := x
          obtain ⟨y1, y2, y3⟩ := y
          simp only [vK] at HK0 HRK c0 c1 c2
          clear hx hxo hcell hq hy he hr
          go_wp2_with fail
          refine (HRK.out _).mono ?_
          rintro e w2 ⟨rfl, hk2⟩
          have HK2 := Lib.hid (Kp.trans HK0.out hk2)
          have HK3 := Lib.hid (kp_alloc w2 (.cells #[.int .i64 y1, .string (st y2), .string (st y3)] 29))
          have HO2 := Lib.hid ((HOWN.out.keep (Kp.trans HK2.out HK3.out)).keep (kp_alloc (w2.alloc (.cells #[.int .i64 y1, .string (st y2), .string (st y3)] 29)) (.cells #[.int .i64 y1, .string (st y2), .string (st y3)] 29)))
          have HBN : Hid (Blk ((w2.alloc (.cells #[.int .i64 y1, .string (st y2), .string (st y3)] 29)).alloc (.cells #[.int .i64 y1, .string (st y2), .string (st y3)] 29)) (w2.heap.size + 1) 29 #[.int .i64 y1, .string (st y2), .string (st y3)]) := Lib.hid (by
            have := Blk.new (w2.alloc (.cells #[.int .i64 y1, .string (st y2), .string (st y3)] 29)) 29 #[.int .i64 y1, .string (st y2), .string (st y3)]
            simpa using this)
          clear hk2 c0 c1 c2
          go_wp2_with (at_builtin; refine wpList_ky (w := w) rfl (.tmp 32) (.tmp 34) rfl _ rfl HO2.out (by rw [HLEN.out]; omega) (y1, y2, y3) HUP.out (w2.heap.size + 1) rfl HBN.out ?_)
          intro v' w3 ho3 hg3 ha3
          have HO3 : Hid (OwK w w3 v' ((ks.take (k + 1)).map (upK m))) := Lib.hid (by rw [HST.out, List.map_append]; simpa [← HY.out] using ho3)
          have HA3 : Hid ((ks.take (k + 1)).all chkK = true) := Lib.hid (by rw [HST.out, List.all_append, HALL.out]; simp [HQ.out])
          obtain ⟨⟨va, vl, vc, rfl⟩, -⟩ := row_frm ho3.owns
          clear ho3 hg3 ha3
          go_wp2_with fail
          go_roundw
          case rel => exact ⟨k + 1, _, by go_num, rfl, by omega, HA3.out, HO3.out⟩
          case measure => simp [intOf]; omega
        · have he : keyE m x = 1 := by unfold keyE; rw [if_neg (by omega), if_neg hq]
          have hr : keyR m x = (0, [], []) := by unfold keyR; rw [if_neg (by omega)]
          rw [he, hr] at HRK
          have HBD : Hid (1 = keysE m ks) := Lib.hid (by
            rw [HE.out, if_neg]
            intro h
            exact hq (List.all_eq_true.1 h x (List.mem_of_getElem? HX.out)))
          obtain ⟨x1, x2, x3⟩ := x
          simp only [vK] at HK0 HRK c0 c1 c2
          clear hx hxo hcell hq he hr
          go_wp2_with fail
          refine (HRK.out _).mono ?_
          rintro e w1 ⟨rfl, hk1⟩
          have HK1 := Lib.hid (Kp.alloc (Kp.trans HOWN.out.kp (Kp.trans HK0.out hk1)) (.cells #[.int .i64 0, .string (st []), .string (st [])] 29))
          clear hk1 c0 c1 c2
          go_wp2_with fail
          exact BAD.out 1 _ HBD.out (by omega) HK1.out
      · obtain rfl : k = N := by omega
        have hT : ks.take k = ks := List.take_of_length_le (by have := HN.out; omega)
        rw [hT] at HOWN HALL HLEN
        have HE0 : Hid (0 = keysE m ks) := Lib.hid (by rw [HE.out, if_pos HALL.out])
        have HKL : Hid (setK (ks.map (upK m)) = keysL m ks) := Lib.hid (keysL_of HE0.out.symm).symm
        have HSE := Lib.hid (rSet_any HOWN.out.kw (by rw [HLEN.out]; exact hl))
        clear hT hkn
        go_wp2_with fail
        refine HSE.out.mono ?_
        rintro e w2 ⟨u, rfl, ho2⟩
        have F2 : Hid (Q (.returned (.tuple #[u, .int .i64 ((0 : Nat) : Int)])) w2) := Lib.hid (FIN.out u 0 w2 HE0.out (by rw [← HKL.out]; exact ho2.kw) (Kp.trans HOWN.out.kp ho2.kp))
        obtain ⟨⟨ua, ul, uc, rfl⟩, -⟩ := row_frm ho2.owns
        clear ho2
        go_wp2_with fail
        exact F2.out
  · have HBD : Hid (3 = keysE n ks) := Lib.hid (by unfold keysE; rw [if_pos (by omega)])
    by_cases h1 : n < 1
    · clear hn
      go_enter Tryd.func9, Tryd.ntmps9
      go_wp2_with fail
      exact BAD.out 3 _ HBD.out (by omega) (Kp.refl _)
    · have h2 : (3 : Int) < n := by omega
      have h3 : (1 : Int) ≤ n := by omega
      clear hn h1
      go_enter Tryd.func9, Tryd.ntmps9
      go_wp2_with fail
      exact BAD.out 3 _ HBD.out (by omega) (Kp.refl _)
end By
end Go.Proofs.YtpgnckjgclbepaaDoor
