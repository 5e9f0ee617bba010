/- The law on words: it returns true for all tapes, and leaves what was there. Condition: a package variable of the library holds some integer. -/
import Derived.Test.YtifhbbjalodplaaDoorLWords
namespace Go.Proofs.YtifhbbjalodplaaDoor
namespace By
open Go.RowKit WireN LexN
set_option linter.unusedVariables false
set_option linter.unusedSimpArgs false

theorem SlI.open3 {w : World} {v : Value} {zs : List Int} (h : SlI w v zs) : ∃ ao len cap, v = .slice ao len cap := by
  obtain ⟨⟨ao, cap, h1, -⟩, -, -⟩ := h
  exact ⟨ao, _, cap, h1⟩
theorem w25_lt {x : List Nat} (h : x ∈ W25) : Lt x ∧ x.length ≤ 25 := by
  have key : ∀ x ∈ W25, x.all (fun y => decide (y < 256)) = true ∧ x.length ≤ 25 := by decide +kernel
  exact ⟨lt_dec (key x h).1, (key x h).2⟩
theorem s8_lt {x : List Nat} (h : x ∈ S8) : Lt x ∧ x.length ≤ 25 := by
  have key : ∀ x ∈ S8, x.all (fun y => decide (y < 256)) = true ∧ x.length ≤ 25 := by decide +kernel
  exact ⟨lt_dec (key x h).1, (key x h).2⟩
theorem s5_lt {x : List Nat} (h : x ∈ S5) : Lt x ∧ x.length ≤ 25 := by
  have key : ∀ x ∈ S5, x.all (fun y => decide (y < 256)) = true ∧ x.length ≤ 25 := by decide +kernel
  exact ⟨lt_dec (key x h).1, (key x h).2⟩
theorem n5_lt {x : List Nat} (h : x ∈ N5) : Lt x ∧ x.length ≤ 25 := by
  have key : ∀ x ∈ N5, x.all (fun y => decide (y < 256)) = true ∧ x.length ≤ 25 := by decide +kernel
  exact ⟨lt_dec (key x h).1, (key x h).2⟩
/-- The tape at the start. -/
theorem Tp.start {w : World} {ao : Option Addr} {len cap : Nat} {zs : List Int} (h : SlI w (.slice ao len cap) zs) : Tp w (w.alloc (.cells #[.slice ao len cap, .int .i64 0] 29)) w.heap.size 0 :=
  ⟨⟨ao, len, cap, zs, h, Blk.new _ _ _⟩, kp_alloc _ _, Nat.le_refl _⟩

set_option maxRecDepth 100000 in
set_option maxHeartbeats 2000000 in
theorem lwords_any {w : World} (hx : MX w) {v : Value} {zs : List Int} (hs : SlI w v zs) : Calls Tryd.prog 4 #[v] w fun e w' => e = .returned (.bool true) ∧ Kp w w' := by
  obtain ⟨ao, len, cap, rfl⟩ := hs.open3
  have HX := Lib.hid hx
  have HT := Lib.hid (Tp.start hs)
  clear hx hs
  go_enter Tryd.func4, Tryd.ntmps4
  go_wp2_with fail
  refine (words_any HT.out (by omega)).mono ?_
  rintro e w1 ⟨⟨v1, ws, at2, rfl, hrow, hall, hlen, htp, hat⟩, hgr⟩
  obtain ⟨wb, hwb⟩ : ∃ wb, wb = w.alloc (.cells #[.slice ao len cap, .int .i64 0] 29) := ⟨_, rfl⟩
  have HGB : Hid (w.heap.size < wb.heap.size) := Lib.hid (by rw [hwb]; simp)
  rw [← hwb] at hrow hgr
  have HROW := Lib.hid hrow; have HALL := Lib.hid hall; have HTP := Lib.hid htp; have HAT := Lib.hid hat; have HLEN := Lib.hid hlen
  obtain ⟨ao1, c1, hv1, hc1⟩ := hrow.form
  subst hv1
  obtain ⟨n, hn⟩ : ∃ n, n = ws.length := ⟨_, rfl⟩
  have HN := Lib.hid hn
  rw [← hn] at HROW hc1 ⊢
  have hnc : (n : Int) ≤ (c1 : Int) := by omega
  have hn13 : (n : Int) ≤ 13 := by omega
  clear hrow hall htp hat hlen hgr hwb hn hc1
  go_wp2_with fail
  go_loopw [4, 13] (fun s q wr => ∃ (k at3 : Nat) (x : List Nat), q = .int .i64 k ∧ k ≤ n ∧ s = .string (st x) ∧ Lt x ∧ x.length ≤ 50 * k ∧ Tp w wr w.heap.size at3 ∧ at3 ≤ 14 + k ∧ WRow wb wr (.slice ao1 n c1) ws) (fun _ q _ => n - (intOf q).toNat)
  case atStart => exact ⟨0, at2, [], rfl, Nat.zero_le _, rfl, Lt.nil, by simp, HTP.out, by have := HAT.out; omega, HROW.out⟩
  case round =>
    obtain ⟨k, at3, x, rfl, hk, rfl, hlx, hxl, htp, hat, hrow⟩ := hrel
    rename World => wx
    have HTPX := Lib.hid htp; have HATX := Lib.hid hat; have HLX := Lib.hid hlx; have HXL := Lib.hid hxl; have HROWX := Lib.hid hrow
    clear htp hat hlx hxl
    by_cases hkn : k < n
    · obtain ⟨gw, cw, e, -, -, -, hsr⟩ := hrow.cell (by have := HN.out; omega)
      injection e with e1 e2 e3
      subst e1 e3
      have hkl : k < ws.length := by have := HN.out; omega
      have hcell := hsr k ws[k] (List.getElem?_eq_getElem hkl)
      have HMEM : Hid (ws[k] ∈ W25) := Lib.hid (HALL.out _ (List.getElem_mem hkl))
      obtain ⟨y, hy⟩ : ∃ y, y = ws[k] := ⟨_, rfl⟩
      rw [← hy] at hcell HMEM
      obtain ⟨Y, hY⟩ : ∃ Y, Y = st y := ⟨_, rfl⟩
      rw [← hY] at hcell
      have HYY := Lib.hid hY
      obtain ⟨X, hX⟩ : ∃ X, X = st x := ⟨_, rfl⟩
      rw [← hX]
      have HXX := Lib.hid hX
      have HKA := Lib.hid (kp_alloc wx (.cells #[.string ⟨#[]⟩, .string ⟨#[32]⟩, .string ⟨#[32, 32]⟩, .string ⟨#[10]⟩, .string ⟨#[9, 13]⟩, .string ⟨#[35, 32, 99, 10]⟩, .string ⟨#[35]⟩, .string ⟨#[11]⟩] 9))
      have HSR : Hid (Sr (wx.alloc (.cells #[.string ⟨#[]⟩, .string ⟨#[32]⟩, .string ⟨#[32, 32]⟩, .string ⟨#[10]⟩, .string ⟨#[9, 13]⟩, .string ⟨#[35, 32, 99, 10]⟩, .string ⟨#[35]⟩, .string ⟨#[11]⟩] 9)) wx.heap.size S8) := Lib.hid (Sr.new a8)
      have HGX : Hid (w.heap.size < wx.heap.size) := Lib.hid (by obtain ⟨_, _, _, _, _, hb⟩ := HTPX.out.ex; exact hb.lt)
      clear hsr hrow hkl hy hY hX e2
      go_wp2_with fail
      refine (TOne_any (HTPX.out.keep HKA.out) (by have := HATX.out; omega) HSR.out rfl (by decide) (by decide) (Nat.le_refl _) (by have := HGX.out; omega)).mono ?_
      rintro e w2 ⟨⟨z, hz, rfl⟩, htp2, ho2⟩
      have HTP2 := Lib.hid htp2
      have hzl := s8_lt hz
      have hyl := w25_lt HMEM.out
      have a1 : ∀ w, (Op.stringOp .add (st z) Y).run Tryd.prog w = .ok (.string (st (z ++ y))) w := fun w => by rw [HYY.out]; exact add_st (by omega) w
      have a2 : ∀ w, (Op.stringOp .add X (st (z ++ y))).run Tryd.prog w = .ok (.string (st (x ++ (z ++ y)))) w := fun w => by rw [HXX.out]; exact add_st (by rw [List.length_append]; have := HXL.out; omega) w
      have HLT : Hid (Lt (x ++ (z ++ y))) := Lib.hid (HLX.out.append (hzl.1.append hyl.1))
      have HLL : Hid ((x ++ (z ++ y)).length ≤ 50 * (k + 1)) := Lib.hid (by rw [List.length_append, List.length_append]; have := HXL.out; omega)
      have HROW2 : Hid (WRow wb w2 (.slice (some ⟨gw, 0, none⟩) n c1) ws) := Lib.hid ((HROWX.out.keep HKA.out).kept (Only.gr ho2) HGB.out)
      obtain ⟨Z, hZ⟩ : ∃ Z, Z = st z := ⟨_, rfl⟩
      obtain ⟨ZY, hZY⟩ : ∃ ZY, ZY = st (z ++ y) := ⟨_, rfl⟩
      obtain ⟨XZY, hXZY⟩ : ∃ XZY, XZY = st (x ++ (z ++ y)) := ⟨_, rfl⟩
      rw [← hZ]
      rw [← hZ, ← hZY] at a1
      rw [← hZY, ← hXZY] at a2
      have HXZ := Lib.hid hXZY
      clear hz htp2 ho2 hzl hyl hZ hZY hXZY
      go_wp2_with fail
      go_roundw
      case rel => exact ⟨k + 1, at3 + 1, x ++ (z ++ y), by go_num, by omega, by rw [← HXZ.out], HLT.out, HLL.out, HTP2.out, by have := HATX.out; omega, HROW2.out⟩
      case measure => simp [intOf]; omega
    · have HSAME := Lib.hid (fun w => same_any HLX.out w)
      obtain ⟨X, hX⟩ : ∃ X, X = st x := ⟨_, rfl⟩
      rw [← hX] at HSAME ⊢
      clear hrow hX
      go_wp2_with fail
      refine (HSAME.out _).mono ?_
      rintro e w3 ⟨rfl, hk3⟩
      have HK3 := Lib.hid (Kp.trans HTPX.out.kp hk3)
      clear hk3
      go_wp2_with fail
      refine (awake_any (HX.out.keep HK3.out)).mono ?_
      rintro e w4 ⟨rfl, hk4⟩
      have HK4 := Lib.hid (Kp.trans HK3.out hk4)
      clear hk4
      go_wp2_with fail
      go_ret
      exact ⟨rfl, HK4.out⟩
end By
end Go.Proofs.YtifhbbjalodplaaDoor

