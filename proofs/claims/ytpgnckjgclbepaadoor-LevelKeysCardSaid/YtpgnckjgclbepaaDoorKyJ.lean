/- The program's Keys at a level. Conditions: a package variable of the library holds some integer, the table of levels lies as its text lays it; lists have at most twelve keys. -/
import Derived.Test.YtpgnckjgclbepaaDoorKyI
namespace Go.Proofs.YtpgnckjgclbepaaDoor
namespace By
open Go.RowKit WireN LexN RevN KeyN
set_option linter.unusedVariables false
set_option linter.unusedSimpArgs false

set_option maxRecDepth 100000 in
set_option maxHeartbeats 4000000 in
theorem Keys_any {v : Value} {ks : List Ky} (n : Int) {w : World} (hs : Kw w v ks) (hl : ks.length ≤ 12) (hm : MX w) (hc : CO w) :
    Calls Tryd.prog 8 #[v, .int .i64 n] w fun e w' => ∃ u, e = .returned (.tuple #[u, .int .i64 (keysE n ks : Nat)]) ∧ Kw w' u (keysL n ks) ∧ (∀ b, u.ownBlock = some b → w.heap.size ≤ b) ∧ Kp w w' := by
  obtain ⟨Q, hQ⟩ : ∃ Q : Ending → World → Prop, Q = fun e w' => ∃ u, e = .returned (.tuple #[u, .int .i64 (keysE n ks : Nat)]) ∧ Kw w' u (keysL n ks) ∧ (∀ b, u.ownBlock = some b → w.heap.size ≤ b) ∧ Kp w w' := ⟨_, rfl⟩
  have FIN : Hid (∀ (u : Value) (E : Nat) (W : World), E = keysE n ks → Kw W u (keysL n ks) → (∀ b, u.ownBlock = some b → w.heap.size ≤ b) → Kp w W → Q (.returned (.tuple #[u, .int .i64 (E : Nat)])) W) := Lib.hid (fun u E W h1 h2 h3 h4 => by
    rw [hQ]
    exact ⟨u, by rw [h1], h2, h3, h4⟩)
  have BAD : Hid (∀ (E : Nat) (W : World), E = keysE n ks → E ≠ 0 → Kp w W → Q (.returned (.tuple #[.slice none 0 0, .int .i64 (E : Nat)])) W) := Lib.hid (fun E W h1 h2 h3 => by
    refine FIN.out _ E W h1 ?_ (fun b hb => by simp [Value.ownBlock] at hb) h3
    have : keysL n ks = [] := by unfold keysL; rw [if_neg (by rw [← h1]; exact h2)]
    rw [this]
    exact Kw.nil _)
  rw [← hQ]
  obtain ⟨ao, cap, rfl, hcap, hmx, -⟩ := hs.open3
  have HL := Lib.hid (isLevel_any n w)
  have HS := Lib.hid hs; have HM := Lib.hid hm; have HC := Lib.hid hc
  obtain ⟨N, hN⟩ : ∃ N, N = ks.length := ⟨_, rfl⟩
  rw [← hN] at HS hl hcap ⊢
  have HN := Lib.hid hN
  have hci : (N : Int) ≤ (cap : Int) := by omega
  have hni : (N : Int) ≤ 12 := by omega
  clear hQ hs hm hc hN hcap hmx
  by_cases hn : 1 ≤ n ∧ n ≤ 3
  · rw [decide_eq_true hn] at HL
    obtain ⟨m, rfl⟩ : ∃ m : Nat, n = (m : Int) := ⟨n.toNat, by omega⟩
    have hm1 : 1 ≤ m := by omega
    have hm3 : m ≤ 3 := by omega
    have HE : Hid (keysE m ks = if ks.all chkK = true then 0 else 1) := Lib.hid (by unfold keysE; rw [if_neg (by omega)])
    clear hn
    go_enter Tryd.func8, Tryd.ntmps8
    go_wp2_with fail
    refine HL.out.mono ?_
    rintro e w1 ⟨rfl, rfl⟩
    go_wp2_with fail
    go_loopw [6, 14] (fun o i wr => ∃ (k : Nat) (vo : Value), i = .int .i64 (k : Nat) ∧ o = vo ∧ k ≤ N ∧ (ks.take k).all chkK = true ∧ OwK w wr vo ((ks.take k).map (upK m))) (fun _ i _ => N - (intOf i).toNat)
    case atStart => exact ⟨0, _, rfl, rfl, Nat.zero_le _, rfl, OwK.start w⟩
    case round =>
      obtain ⟨k, vo, rfl, rfl, hk, hall, hown⟩ := hrel
      rename World => wx
      have HALL := Lib.hid hall; have HOWN := Lib.hid hown
      obtain ⟨⟨oa, ol, oc, rfl⟩, -⟩ := row_frm hown.owns
      clear hall hown
      have HLEN : Hid (((ks.take k).map (upK m)).length = k) := Lib.hid (by rw [List.length_map, List.length_take]; have := HN.out; omega)
      by_cases hkn : k < N
      · obtain ⟨x, hx⟩ : ∃ x, ks[k]? = some x := ⟨_, List.getElem?_eq_getElem (by have := HN.out; omega)⟩
        have HX := Lib.hid hx
        have hxo : KyOk x := HS.out.ok x (List.mem_of_getElem? hx)
        obtain ⟨b, off, rfl, hcell⟩ := (HS.out.keep HOWN.out.kp).cell (by omega)
        obtain ⟨c0, c1, c2⟩ := hcell k x hx
        have hki : (k : Int) < (N : Int) := by omega
        have HK0 := Lib.hid (kp_alloc wx (.cells #[.int .i64 x.1, .string (st x.2.1), .string (st x.2.2)] 29))
        have HBX := Lib.hid (Blk.new wx 29 #[.int .i64 x.1, .string (st x.2.1), .string (st x.2.2)])
        have HCH := Lib.hid (Check_any hxo (HM.out.keep (Kp.trans HOWN.out.kp HK0.out)))
        have HRA := Lib.hid (fun W (h : CO W) => raised_any x m hm1 hm3 h)
        have HST : Hid (ks.take (k + 1) = ks.take k ++ [x]) := Lib.hid (by rw [List.take_add_one, hx]; rfl)
        have HXO := Lib.hid hxo
        obtain ⟨q, hq⟩ : ∃ q, q = chkK x := ⟨_, rfl⟩
        rw [← hq] at HCH
        have HQQ := Lib.hid hq
        cases q with
        | true =>
          have HUP : Hid (KyOk (upK m x)) := Lib.hid (up_ks (chk_ks hxo hq.symm) m).ok
          obtain ⟨y, hy⟩ : ∃ y, y = upK m x := ⟨_, rfl⟩
          rw [← hy] at HRA HUP
          have HY := Lib.hid hy
          obtain ⟨x1, x2, x3⟩ := x
          obtain ⟨y1, y2, y3⟩ := y
          simp only [vK] at HK0 HBX HCH HRA c0 c1 c2
          clear hx hxo hcell hq hy
          go_wp2_with fail
          refine HCH.out.mono ?_
          rintro e w1 ⟨rfl, hk1⟩
          have HK1 := Lib.hid (Kp.trans HK0.out hk1)
          have bb := HBX.out.keep hk1
          have d0 := bb.cell 0 rfl; have d1 := bb.cell 1 rfl; have d2 := bb.cell 2 rfl
          clear hk1 bb c0 c1 c2
          go_wp2_with fail
          refine (HRA.out _ (HC.out.keep (Kp.trans HOWN.out.kp HK1.out))).mono ?_
          rintro e w2 ⟨rfl, hk2⟩
          have HK2 := Lib.hid (Kp.trans HK1.out hk2)
          have HO2 := Lib.hid ((HOWN.out.keep HK2.out).keep (kp_alloc w2 (.cells #[.int .i64 y1, .string (st y2), .string (st y3)] 29)))
          have HBN := Lib.hid (Blk.new w2 29 #[.int .i64 y1, .string (st y2), .string (st y3)])
          clear hk2 d0 d1 d2
          go_wp2_with (at_builtin; refine wpList_ky (w := w) rfl (.tmp 21) (.tmp 25) rfl _ rfl HO2.out (by rw [HLEN.out]; omega) (y1, y2, y3) HUP.out w2.heap.size rfl HBN.out ?_)
          intro v' w3 ho3 hg3 ha3
          have HO3 : Hid (OwK w w3 v' ((ks.take (k + 1)).map (upK m))) := Lib.hid (by rw [HST.out, List.map_append]; simpa [← HY.out] using ho3)
          have HA3 : Hid ((ks.take (k + 1)).all chkK = true) := Lib.hid (by rw [HST.out, List.all_append, HALL.out]; simp [← HQQ.out])
          obtain ⟨⟨va, vl, vc, rfl⟩, -⟩ := row_frm ho3.owns
          clear ho3 hg3 ha3
          go_wp2_with fail
          go_roundw
          case rel => exact ⟨k + 1, _, by go_num, rfl, by omega, HA3.out, HO3.out⟩
          case measure => simp [intOf]; omega
        | false =>
          have HBD : Hid (1 = keysE m ks) := Lib.hid (by
            rw [HE.out, if_neg]
            intro h
            have := List.all_eq_true.1 h x (List.mem_of_getElem? HX.out)
            rw [← HQQ.out] at this
            cases this)
          obtain ⟨x1, x2, x3⟩ := x
          simp only at HK0 HBX HCH c0 c1 c2
          clear hx hxo hcell hq
          go_wp2_with fail
          refine HCH.out.mono ?_
          rintro e w1 ⟨rfl, hk1⟩
          have HK1 := Lib.hid (Kp.trans HOWN.out.kp (Kp.trans HK0.out hk1))
          clear hk1 c0 c1 c2
          go_wp2_with fail
          exact BAD.out 1 w1 HBD.out (by omega) HK1.out
      · obtain rfl : k = N := by omega
        have hT : ks.take k = ks := List.take_of_length_le (by have := HN.out; omega)
        rw [hT] at HOWN HALL HLEN
        have HE0 : Hid (0 = keysE m ks) := Lib.hid (by rw [HE.out, if_pos HALL.out])
        have HKL : Hid (setK (ks.map (upK m)) = keysL m ks) := Lib.hid (keysL_of HE0.out.symm).symm
        have HSE := Lib.hid (Set_any HOWN.out.kw (by rw [HLEN.out]; exact hl) (fun y hy => by
          obtain ⟨x, hx, rfl⟩ := List.mem_map.1 hy
          exact up_ks (chk_ks (HS.out.ok x hx) (List.all_eq_true.1 HALL.out x hx)) m))
        clear hT hkn
        go_wp2_with fail
        refine HSE.out.mono ?_
        rintro e w2 ⟨u, rfl, hkw, hnew, hk2⟩
        have F2 : Hid (Q (.returned (.tuple #[u, .int .i64 ((0 : Nat) : Int)])) w2) := Lib.hid (FIN.out u 0 w2 HE0.out (by rw [← HKL.out]; exact hkw) (fun b hb => by have := hnew b hb; have := HOWN.out.kp.size; omega) (Kp.trans HOWN.out.kp hk2))
        obtain ⟨ua, uc, rfl, -, -, -⟩ := hkw.open3
        clear hkw hnew hk2
        go_wp2_with fail
        exact F2.out
  · rw [decide_eq_false hn] at HL
    have HBD : Hid (3 = keysE n ks) := Lib.hid (by unfold keysE; rw [if_pos (by omega)])
    clear hn
    go_enter Tryd.func8, Tryd.ntmps8
    go_wp2_with fail
    refine HL.out.mono ?_
    rintro e w1 ⟨rfl, rfl⟩
    go_wp2_with fail
    exact BAD.out 3 _ HBD.out (by omega) (Kp.refl _)
end By
end Go.Proofs.YtpgnckjgclbepaaDoor
