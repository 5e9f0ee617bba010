/- A copy of a text, and the program's Get. Condition: the text is not too long. -/
import Derived.Test.YtlfoikjbbbhbdaaShelf
import Derived.Test.YtlfoikjbbbhbdaaCtCk
namespace Go.Proofs.Ytlfoikjbbbhbdaa
namespace By
open Go.RowKit WireN CtN
set_option linter.unusedVariables false
set_option linter.unusedSimpArgs false

theorem Clone_t {x : Tx} (hx : TxOk x) (w : World) : Calls Try.prog 41 #[.string (st x)] w fun e w' => e = .returned (.string (st x)) ∧ Kp w w' := by
  have HC := Lib.hid (Try.stringslite_Clone (st x) w (by rw [st_size]; have := hx.2; omega))
  obtain ⟨S, hS⟩ : ∃ S, S = st x := ⟨_, rfl⟩
  rw [← hS] at HC ⊢
  clear hS
  go_enter Try.func41, Try.ntmps41
  go_wp2_with fail
  refine HC.out.mono ?_
  rintro e w1 ⟨rfl, hk⟩
  have HK := Lib.hid hk
  clear hk
  go_wp2_with fail
  go_ret
  exact ⟨rfl, HK.out⟩
set_option maxRecDepth 100000 in
set_option maxHeartbeats 1000000 in
theorem get_any {w : World} {v : Value} {ts : List Tx} (hs : Tw w v ts) (n : Int) :
    Calls Try.prog 16 #[.agg #[v], .int .i64 n] w fun e w' => e = .returned (.tuple #[.string (st (gtT n ts)), .int .i64 (gtE n ts : Nat)]) ∧ Kp w w' := by
  obtain ⟨Q, hQ⟩ : ∃ Q : Ending → World → Prop, Q = fun e w' => e = .returned (.tuple #[.string (st (gtT n ts)), .int .i64 (gtE n ts : Nat)]) ∧ Kp w w' := ⟨_, rfl⟩
  have FIN : Hid (∀ (S : ByteArray) (E : Nat) (w' : World), S = st (gtT n ts) → E = gtE n ts → Kp w w' → Q (.returned (.tuple #[.string S, .int .i64 (E : Nat)])) w') := Lib.hid (by
    intro S E w' h1 h2 h3
    rw [hQ, h1, h2]
    exact ⟨rfl, h3⟩)
  rw [← hQ]
  clear hQ
  obtain ⟨W, hW⟩ : ∃ W, W = w.alloc (.cells #[v] 25) := ⟨_, rfl⟩
  have hk0 : Kp w W := by rw [hW]; exact kp_alloc _ _
  have hb0 : Blk W w.heap.size 25 #[v] := by rw [hW]; exact Blk.new _ _ _
  have HB := Lib.hid (check_any (hs.keep hk0))
  have HW := Lib.hid hW; have HK := Lib.hid hk0; have HBL := Lib.hid hb0; have HS := Lib.hid hs
  have c0 := hb0.cell 0 rfl
  obtain ⟨E, hE⟩ : ∃ E, E = err ts := ⟨_, rfl⟩
  have HE := Lib.hid hE
  have HI : Hid (∀ w1, Kp W w1 → Calls Try.prog 40 #[.agg #[v], .int .i64 n] w1 fun e w' => e = .returned (.bool (decide (0 ≤ n ∧ n < (ts.length : Int)))) ∧ Kp w1 w') := Lib.hid (fun w1 hk => isNumber_any (hs.keep (hk0.trans hk)) n)
  obtain ⟨ao, cap, rfl, hcap, -, -⟩ := hs.open3
  obtain ⟨m, hm⟩ : ∃ m, m = ts.length := ⟨_, rfl⟩
  rw [← hm] at HW HBL HS HB HI c0 hcap ⊢
  have HM := Lib.hid hm
  have i1 : (m : Int) ≤ (cap : Int) := by omega
  rw [← hE] at HB
  clear hs hk0 hb0 hW hE hcap hm
  by_cases he : E = 0
  · have q : ((E : Int) != 0) = false := by simp [he]
    have HE0 : Hid (err ts = 0) := Lib.hid (HE.out ▸ he)
    by_cases hn : 0 ≤ n ∧ n < (m : Int)
    · have F1 : Hid (gtE n ts = 0) := Lib.hid (gtE_in HE0.out (by rw [← HM.out]; exact hn))
      have HI' : Hid (∀ w1, Kp W w1 → Calls Try.prog 40 #[.agg #[.slice ao m cap], .int .i64 n] w1 fun e w' => e = .returned (.bool true) ∧ Kp w1 w') := Lib.hid (by
        have := HI.out
        rwa [decide_eq_true hn] at this)
      obtain ⟨h1, h2⟩ := hn
      obtain ⟨k, rfl⟩ : ∃ k : Nat, n = (k : Int) := ⟨n.toNat, by omega⟩
      obtain ⟨x, hx⟩ : ∃ x, ts[k]? = some x := ⟨_, List.getElem?_eq_getElem (by have := HM.out; omega)⟩
      have F2 : Hid (st x = st (gtT k ts)) := Lib.hid (by rw [gtT_ok F1.out, Int.toNat_natCast, hx]; rfl)
      have HCL : Hid (∀ w1, Calls Try.prog 41 #[.string (st x)] w1 fun e w' => e = .returned (.string (st x)) ∧ Kp w1 w') := Lib.hid (fun w1 => Clone_t (HS.out.ok x (List.mem_of_getElem? hx)) w1)
      obtain ⟨b, off, rfl, hcell⟩ := HS.out.cell (by omega)
      obtain ⟨X, hX⟩ : ∃ X, X = st x := ⟨_, rfl⟩
      have hcx := hcell k x hx
      rw [← hX] at HCL F2 hcx
      have HX := Lib.hid hcx
      clear hcell hx h1 he hX HI hcx
      go_enter Try.func16, Try.ntmps16
      go_wp2_with fail
      rw [← HW.out]
      refine HB.out.mono ?_
      rintro e w1 ⟨rfl, hk1⟩
      have HK1 := Lib.hid hk1
      have c1 := (HBL.out.keep hk1).cell 0 rfl
      clear hk1
      go_wp2_with fail
      refine (HI'.out _ HK1.out).mono ?_
      rintro e w2 ⟨rfl, hk2⟩
      have HK2 := Lib.hid (HK1.out.trans hk2)
      have c2 := (HBL.out.keep HK2.out).cell 0 rfl
      have d2 := cell_kept HX.out (HK.out.trans HK2.out)
      clear hk2 c1
      go_wp2_with fail
      refine (HCL.out _).mono ?_
      rintro e w3 ⟨rfl, hk3⟩
      have HK3 := Lib.hid ((HK.out.trans HK2.out).trans hk3)
      clear hk3
      go_wp2_with fail
      exact FIN.out X 0 _ F2.out F1.out.symm HK3.out
    · have F1 : Hid (gtE n ts = 20) := Lib.hid (gtE_out HE0.out (by rw [← HM.out]; exact hn))
      have F2 : Hid (⟨#[]⟩ = st (gtT n ts)) := Lib.hid (by rw [gtT_no (by rw [F1.out]; decide)]; rfl)
      have HI' : Hid (∀ w1, Kp W w1 → Calls Try.prog 40 #[.agg #[.slice ao m cap], .int .i64 n] w1 fun e w' => e = .returned (.bool false) ∧ Kp w1 w') := Lib.hid (by
        have := HI.out
        rwa [decide_eq_false hn] at this)
      clear HI hn he
      go_enter Try.func16, Try.ntmps16
      go_wp2_with fail
      rw [← HW.out]
      refine HB.out.mono ?_
      rintro e w1 ⟨rfl, hk1⟩
      have HK1 := Lib.hid hk1
      have c1 := (HBL.out.keep hk1).cell 0 rfl
      clear hk1
      go_wp2_with fail
      refine (HI'.out _ HK1.out).mono ?_
      rintro e w2 ⟨rfl, hk2⟩
      have HK2 := Lib.hid ((HK.out.trans HK1.out).trans hk2)
      clear hk2 c1
      go_wp2_with fail
      exact FIN.out _ 20 _ F2.out F1.out.symm HK2.out
  · have q : ((E : Int) != 0) = true := by simp; omega
    have F1 : Hid (E = gtE n ts) := Lib.hid (by rw [HE.out]; exact (gtE_bad (HE.out ▸ he)).symm)
    have F2 : Hid (⟨#[]⟩ = st (gtT n ts)) := Lib.hid (by rw [gtT_no (by rw [← F1.out]; exact he)]; rfl)
    clear he HI
    go_enter Try.func16, Try.ntmps16
    go_wp2_with fail
    rw [← HW.out]
    refine HB.out.mono ?_
    rintro e w1 ⟨rfl, hk1⟩
    have HK1 := Lib.hid (HK.out.trans hk1)
    clear hk1
    go_wp2_with fail
    exact FIN.out _ E _ F2.out F1.out HK1.out
end By
end Go.Proofs.Ytlfoikjbbbhbdaa
