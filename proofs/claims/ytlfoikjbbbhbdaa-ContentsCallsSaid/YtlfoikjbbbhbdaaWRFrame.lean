/- The reference's Frame: the bytes of a frame, or the error. Condition: the slice holds the bytes that are named. -/
import Derived.Test.YtlfoikjbbbhbdaaWRNext
namespace Go.Proofs.Ytlfoikjbbbhbdaa
namespace By
open Go.RowKit WireN
set_option linter.unusedVariables false
set_option linter.unusedSimpArgs false

set_option maxRecDepth 100000 in
set_option maxHeartbeats 1000000 in
theorem rFrame_range {v : Value} {xs : List Nat} {w : World} (hs : Sl w v xs) (k : Int) (hk : -9223372036854775808 ≤ k ∧ k ≤ 9223372036854775807) (h : k < 1 ∨ 255 < k) :
    Calls Try.prog 45 #[.agg #[.int .i64 k, v]] w fun e w' => e = .returned (.tuple #[.slice none 0 0, .int .i64 3]) ∧ Kp w w' := by
  obtain ⟨ao, cap, rfl, hc, hm, hno⟩ := hs.open3
  have HKP := Lib.hid (kp_alloc w (.cells #[.int .i64 k, .slice ao xs.length cap] 80))
  clear hs hno
  rcases h with h | h
  · go_enter Try.func45, Try.ntmps45
    go_wp2_with fail
    go_ret2
    exact ⟨rfl, HKP.out⟩
  · have h1 : ¬ k < 1 := by omega
    go_enter Try.func45, Try.ntmps45
    go_wp2_with fail
    go_ret2
    exact ⟨rfl, HKP.out⟩

set_option maxRecDepth 100000 in
set_option maxHeartbeats 1500000 in
theorem rFrame_ok {v : Value} {xs : List Nat} {w : World} (hs : Sl w v xs) (k : Nat) (hk : 1 ≤ k) (hk2 : k ≤ 255) (h : xs.length ≤ 2097152) :
    Calls Try.prog 45 #[.agg #[.int .i64 k, v]] w fun e w' => (∃ v', e = .returned (.tuple #[v', .int .i64 0]) ∧ Sl w' v' (fr k xs) ∧ New w.heap.size v') ∧ Kp w w' := by
  obtain ⟨ao, cap, rfl, hc, hm, hno⟩ := hs.open3
  have HKP := Lib.hid (kp_alloc w (.cells #[.int .i64 k, .slice ao xs.length cap] 80))
  have HB := Lib.hid (Blk.new w 80 #[.int .i64 k, .slice ao xs.length cap])
  obtain ⟨len, hlen⟩ : ∃ len, len = xs.length := ⟨_, rfl⟩
  obtain ⟨w2, hw2⟩ : ∃ w2, w2 = w.alloc (.cells #[.int .i64 k, .slice ao xs.length cap] 80) := ⟨_, rfl⟩
  rw [← hw2] at HB HKP
  have HS0 := Lib.hid (hs.keep HKP.out)
  rw [← hlen] at h HB HS0 hw2 ⊢
  have h' : (len : Int) ≤ 2097152 := by omega
  have hk' : (1 : Int) ≤ k := by omega
  have hk2' : (k : Int) ≤ 255 := by omega
  have hwk : IntKind.u8.wrap (k : Int) = (k : Int) := by rw [IntKind.wrap_u8]; omega
  have hwl : IntKind.u64.wrap (len : Int) = (len : Int) := by rw [IntKind.wrap_u64]; omega
  have HL := Lib.hid hlen
  obtain ⟨wA, hwA⟩ : ∃ wA, wA = (w2.alloc (.cells #[.int .u8 247, .int .u8 k] 5)).drew := ⟨_, rfl⟩
  have hSA : Sl wA (.slice (some ⟨w2.heap.size, 0, none⟩) 2 2) [247, k] := by
    rw [hwA]
    refine Sl.keep ?_ (kp_drew _)
    exact sl_new (w := w2) (e := 5) (cs := #[.int .u8 247, .int .u8 k]) [247, k] (Lt.cons (by omega) (Lt.one (by omega))) rfl 2 rfl (by omega)
  have hKA : Kp w2 wA := by rw [hwA]; exact Kp.trans (kp_alloc _ _) (kp_drew _)
  have HSA := Lib.hid hSA; have HKA := Lib.hid hKA
  have c0 := HB.out.cell 0 rfl; have c1 := HB.out.cell 1 rfl
  have HUL := Lib.hid (uv_ten (n := len) (by omega))
  have HSUM : Hid (([247, k] ++ uv len).length + xs.length ≤ 140737488355328) := Lib.hid (by
    have := HUL.out; rw [List.length_append, ← HL.out]; show 2 + (uv len).length + len ≤ _; omega)
  have HP1 : Hid ([247, k].length ≤ 35184372088832) := Lib.hid (by show 2 ≤ _; omega)
  have HP2 : Hid (len < 18446744073709551616) := Lib.hid (by omega)
  have HN : Hid (Own wA wA (.slice none 0 0) []) := Lib.hid (Own.start wA)
  have HW2 := Lib.hid hw2; have HWA := Lib.hid hwA
  clear hs hno hm hlen h hSA hKA hw2 hwA
  go_enter Try.func45, Try.ntmps45
  go_wp2_with fail
  rw [← HW2.out]
  go_region_held3 (fun w' => w'.cell? ⟨w.heap.size, 0, none⟩ = some (.int .i64 (k : Nat)) ∧ w'.cell? ⟨w.heap.size, 1, none⟩ = some (.slice ao len cap))
    (first
      | exact ⟨c0, c1⟩
      | exact ⟨cell_kept c0 hk6, cell_kept c1 hk6⟩
      | exact ⟨cell_kept c0 hk5, cell_kept c1 hk5⟩
      | exact ⟨cell_kept c0 (Kp.trans (kp_drew _) (kp_alloc _ _)), cell_kept c1 (Kp.trans (kp_drew _) (kp_alloc _ _))⟩
      | fail "no keep")
    (first
      | (go_at_call 52; rw [← HWA.out]; refine (rPutUint_any HSA.out HP1.out len HP2.out).mono ?_; rintro e w5 ⟨v5, rfl, hown5⟩; have hk5 := Kp.trans HKA.out hown5.kp)
      | (refine step_ap rfl (.tmp 26) (.tmp 28) rfl rfl rfl hown5 (HS0.out.keep hk5) HSUM.out ?_; intro v6 w6 hown6; have hk6 := Kp.trans HKA.out hown6.kp)
      | fail "no arm")
  obtain ⟨Z, hZ⟩ : ∃ Z, Z = ([247, k] ++ uv len) ++ xs := ⟨_, rfl⟩
  rw [← hZ] at hown6
  have hZb : Z = 247 :: body k xs := by rw [hZ, HL.out]; simp [body]
  obtain ⟨L6, hL6⟩ : ∃ L6, L6 = Z.length := ⟨_, rfl⟩
  have hL6b : L6 ≤ 2097164 := by rw [hL6, hZ]; have := HUL.out; have := HL.out; simp; omega
  have hL61 : 1 ≤ L6 := by rw [hL6, hZb]; simp
  have hZsm : Z.length ≤ 140737488355328 := by omega
  have hsl6 := hown6.sl hZsm
  obtain ⟨ao6, cap6, rfl, hcap6, -, -⟩ := hsl6.open3
  rw [← hL6] at hsl6 hcap6 hown6 ⊢
  obtain ⟨V, hV⟩ : ∃ V, V = sliced ao6 1 L6 cap6 1 := ⟨_, rfl⟩
  have hslc : ∀ w, (Instr.slice 48 (.slice ao6 L6 cap6) (some (.int .i64 1)) none none).run Try.prog w = .ok V w := fun w => by
    rw [hV]; exact slice_from ao6 L6 cap6 1 hL61 w
  have HSV : Hid (Sl w6 V (body k xs)) := Lib.hid (by
    have := hsl6.cut 1 L6 hL61 (Nat.le_refl _)
    rw [← hV, hL6, List.take_length, hZb] at this
    exact this)
  obtain ⟨C, hC⟩ : ∃ C, C = ck (body k xs) := ⟨_, rfl⟩
  have HC := Lib.hid hC
  have HFR : Hid (Z ++ le4 C = fr k xs) := Lib.hid (by rw [hZb, hC]; rfl)
  have HO6 := Lib.hid (hown6.base (Kp.trans HKP.out HKA.out))
  have HZ6 := Lib.hid hL6
  have HL6 := Lib.hid hL6b
  obtain ⟨C0, hC0⟩ : ∃ C0, C0 = C % 256 := ⟨_, rfl⟩
  have hC0' : (C : Int) % 256 = (C0 : Int) := by omega
  have HLE : Hid (le4 C = [C % 256, C / 256 % 256, C / 65536 % 256, C / 16777216 % 256]) := Lib.hid rfl
  rw [← hC0] at HLE
  obtain ⟨D1, hD1⟩ : ∃ D, D = C / 256 := ⟨_, rfl⟩
  have hD1' : (C : Int) / 256 = (D1 : Int) := by omega
  obtain ⟨C1, hC1⟩ : ∃ C0, C0 = D1 % 256 := ⟨_, rfl⟩
  have hC1' : (D1 : Int) % 256 = (C1 : Int) := by omega
  rw [← hD1, ← hC1] at HLE
  obtain ⟨D2, hD2⟩ : ∃ D, D = C / 65536 := ⟨_, rfl⟩
  have hD2' : (C : Int) / 65536 = (D2 : Int) := by omega
  obtain ⟨C2, hC2⟩ : ∃ C0, C0 = D2 % 256 := ⟨_, rfl⟩
  have hC2' : (D2 : Int) % 256 = (C2 : Int) := by omega
  rw [← hD2, ← hC2] at HLE
  obtain ⟨D3, hD3⟩ : ∃ D, D = C / 16777216 := ⟨_, rfl⟩
  have hD3' : (C : Int) / 16777216 = (D3 : Int) := by omega
  obtain ⟨C3, hC3⟩ : ∃ C0, C0 = D3 % 256 := ⟨_, rfl⟩
  have hC3' : (D3 : Int) % 256 = (C3 : Int) := by omega
  rw [← hD3, ← hC3] at HLE
  have HB4 : Hid (C0 < 256 ∧ C1 < 256 ∧ C2 < 256 ∧ C3 < 256) := Lib.hid (by omega)
  clear hZ hZb hL6 hL6b hL61 hZsm hsl6 hcap6 hown6 hV hC hC0 hC1 hC2 hC3 hD1 hD2 hD3 hk5 hk6 hown5 c0 c1
  go_wp2_with fail
  refine (rChecksum_any HSV.out).mono ?_
  rintro r w7 ⟨rfl, rfl⟩
  rw [← HC.out]
  have HS4 : Hid (Sl (w6.alloc (.cells #[.int .u8 C0, .int .u8 C1, .int .u8 C2, .int .u8 C3] 5)) (.slice (some ⟨w6.heap.size, 0, none⟩) 4 4) [C0, C1, C2, C3]) := Lib.hid
    (sl_new [C0, C1, C2, C3] (Lt.cons HB4.out.1 (Lt.cons HB4.out.2.1 (Lt.cons HB4.out.2.2.1 (Lt.one HB4.out.2.2.2)))) rfl 4 rfl (by omega))
  go_wp2_with (at_builtin; refine wpList_ap (w := w) rfl (.tmp 33) (.tmp 45) 48 rfl Try.underlying48 _ _ Z [C0, C1, C2, C3] rfl rfl (HO6.out.keep (kp_alloc _ _)) HS4.out (by have := HZ6.out; have := HL6.out; simp; omega) ?_)
  intro v8 w8 hown8
  rw [← HLE.out, HFR.out] at hown8
  have HO8 := Lib.hid hown8
  clear hown8
  go_wp2_with fail
  go_ret2
  have hfl : (fr k xs).length ≤ 140737488355328 := by rw [← HFR.out, List.length_append, le4_len, ← HZ6.out]; have := HL6.out; omega
  exact ⟨⟨_, rfl, HO8.out.sl hfl, HO8.out.new hfl⟩, HO8.out.kp⟩
end By
end Go.Proofs.Ytlfoikjbbbhbdaa
