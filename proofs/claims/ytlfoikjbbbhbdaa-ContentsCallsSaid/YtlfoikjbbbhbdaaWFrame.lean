/- The program's Frame: the bytes of a frame, or the error. Condition: the slice holds the bytes that are named. -/
import Derived.Test.YtlfoikjbbbhbdaaWSum
import Derived.Deep.RegionHeld3
import Derived.RegionTactic
import Derived.Outline
namespace Go.Proofs.Ytlfoikjbbbhbdaa
namespace By
open Go.RowKit WireN
set_option linter.unusedVariables false
set_option linter.unusedSimpArgs false

set_option maxRecDepth 100000 in
set_option maxHeartbeats 1000000 in
theorem Frame_range {v : Value} {xs : List Nat} {w : World} (hs : Sl w v xs) (k : Int) (hk : -9223372036854775808 ≤ k ∧ k ≤ 9223372036854775807) (h : k < 1 ∨ 255 < k) :
    Calls Try.prog 44 #[.agg #[.int .i64 k, v]] w fun e w' => e = .returned (.tuple #[.slice none 0 0, .int .i64 3]) ∧ Kp w w' := by
  obtain ⟨ao, cap, rfl, hc, hm, hno⟩ := hs.open3
  have HKP := Lib.hid (kp_alloc w (.cells #[.int .i64 k, .slice ao xs.length cap] 80))
  clear hs hno
  rcases h with h | h
  · go_enter Try.func44, Try.ntmps44
    go_wp2_with fail
    go_ret2
    exact ⟨rfl, HKP.out⟩
  · have h1 : ¬ k < 1 := by omega
    go_enter Try.func44, Try.ntmps44
    go_wp2_with fail
    go_ret2
    exact ⟨rfl, HKP.out⟩

set_option maxRecDepth 100000 in
set_option maxHeartbeats 1000000 in
theorem Frame_limit {v : Value} {xs : List Nat} {w : World} (hs : Sl w v xs) (k : Nat) (hk : 1 ≤ k) (hk2 : k ≤ 255) (h : 2097152 < xs.length) :
    Calls Try.prog 44 #[.agg #[.int .i64 k, v]] w fun e w' => e = .returned (.tuple #[.slice none 0 0, .int .i64 2]) ∧ Kp w w' := by
  obtain ⟨ao, cap, rfl, hc, hm, hno⟩ := hs.open3
  have HKP := Lib.hid (kp_alloc w (.cells #[.int .i64 k, .slice ao xs.length cap] 80))
  obtain ⟨len, hlen⟩ : ∃ len, len = xs.length := ⟨_, rfl⟩
  rw [← hlen] at h HKP ⊢
  have h' : 2097152 < (len : Int) := by omega
  clear hs hno hc hm hlen h
  go_enter Try.func44, Try.ntmps44
  go_wp2_with fail
  go_ret2
  exact ⟨rfl, HKP.out⟩

/-- copy of bytes over the end of a row of the call's own, as a step of a region. -/
theorem step_ow {w wx : World} {ops : Array Oper} {o : Oper} {a : Act} {K : Act → World → Prop} {Q : Exit → Act → World → Prop} {E : Prop} (hgd : o.guard = none) (d s : Operand)
    (ho : o.op = .call { callee := .builtin .copy, args := #[d, s], argTypes := #[48, 48] }) {g n cap : Nat} {zs ys : List Nat} (hown : Own w wx (.slice (some ⟨g, 0, none⟩) n cap) zs) (e dl dc : Nat)
    (hd : a.eval d = .slice (some ⟨g, e, none⟩) dl dc) {vs : Value} (hs : a.eval s = vs) (hsl : Sl wx vs ys) (hdl : ys.length = dl) (hfit : e + ys.length = zs.length)
    (h : ∀ w', Own w w' (.slice (some ⟨g, 0, none⟩) n cap) (zs.take e ++ ys) → K (a.put o.dst (goInt ys.length)) w') :
    if Region.wanted o (yielded ops a.tmps) = true then Oper.wp Try.prog o a wx K Q else E := by
  obtain ⟨⟨ao, c, rfl, h2, h3, h4, h5⟩, hl, hsm⟩ := hsl
  rcases hown.owns.2 with ⟨h0, _⟩ | ⟨g', cap', cur, h0, hb, hg, hnc, hcm, hsz, htake⟩
  · simp at h0
  · simp only [Value.slice.injEq, Option.some.injEq, Addr.mk.injEq, and_true] at h0
    obtain ⟨rfl, rfl, rfl⟩ := h0
    rw [Nat.mul_one] at hsz htake
    have hct : cur.toList.length = cur.size := Array.length_toList
    have huy : (U ys).length = ys.length := U_length ys
    refine step_copy_splice hgd d s 48 48 ho 5 Try.underlying48 mk_size (some ⟨g, e, none⟩) ao dl dc ys.length c hd hs g e cur.toList 5 (by simpa using hg) (U ys)
      (by rw [U_length, hdl]; exact (Nat.min_self _).symm) (fun hp => ⟨rfl, ?_⟩) (by rw [huy, hct, hfit, hsz]; exact hnc) (U_one _) w.heap.size w hown.kp hb ?_
    · rw [U_length] at hp
      obtain ⟨b, off, rfl, hc⟩ := h4.cells hp
      exact ⟨_, rfl, h4.news⟩
    · intro w' hw' hk
      rw [U_length]
      have hlen : (zs.take e ++ ys).length = zs.length := by rw [List.length_append, List.length_take, Nat.min_eq_left (by omega), hfit]
      refine h w' ⟨⟨?_, .inr ⟨g, cap, _, ?_, hb, hw'.out, ?_, hcm, ?_, ?_⟩⟩, (hown.lt.take e).append hl, hk⟩
      · simp [U_length]
      · rw [hlen]
      · rw [hlen]; exact hnc
      · rw [Nat.mul_one, List.size_toArray, length_splice _ _ _ (by rw [huy, hct, hfit, hsz]; exact hnc), hct, hsz]
      · rw [Nat.mul_one, hlen]
        show (splice cur.toList e (U ys)).take zs.length = _
        have e1 : cur.toList.take e = U (zs.take e) := by
          rw [show cur.toList.take e = (cur.toList.take zs.length).take e by rw [List.take_take, Nat.min_eq_left (by omega)], htake]
          simp [U, List.map_take]
        unfold splice
        rw [e1, ← List.append_assoc, List.take_left' (by rw [← U_append, U_length, hlen]), U_append]

theorem mk4 (w : World) : (Instr.makeSlice 48 (.int .i64 4) (.int .i64 4)).run Try.prog w = .ok (.slice (some ⟨w.heap.size, 0, none⟩) 4 4) (w.alloc (.cells #[.int .u8 0, .int .u8 0, .int .u8 0, .int .u8 0] 5)) := by kernel_rfl

set_option maxRecDepth 100000 in
set_option maxHeartbeats 2000000 in
theorem Frame_ok {v : Value} {xs : List Nat} {w : World} (hs : Sl w v xs) (k : Nat) (hk : 1 ≤ k) (hk2 : k ≤ 255) (h : xs.length ≤ 2097152) :
    Calls Try.prog 44 #[.agg #[.int .i64 k, v]] w fun e w' => (∃ v', e = .returned (.tuple #[v', .int .i64 0]) ∧ Sl w' v' (fr k xs) ∧ New w.heap.size v') ∧ Kp w w' := by
  obtain ⟨ao, cap, rfl, hc, hm, hno⟩ := hs.open3
  have HKP := Lib.hid (kp_alloc w (.cells #[.int .i64 k, .slice ao xs.length cap] 80))
  have HB := Lib.hid (Blk.new w 80 #[.int .i64 k, .slice ao xs.length cap])
  have HS0 := Lib.hid (hs.keep HKP.out)
  obtain ⟨len, hlen⟩ : ∃ len, len = xs.length := ⟨_, rfl⟩
  rw [← hlen] at h HKP HB HS0 ⊢
  have h' : (len : Int) ≤ 2097152 := by omega
  have HL := Lib.hid hlen
  have HSK : Hid (Sl ((w.alloc (.cells #[.int .i64 k, .slice ao len cap] 80)).alloc (.cells #[.int .u8 247, .int .u8 k] 5)) (.slice (some ⟨w.heap.size + 1, 0, none⟩) 2 2) [247, k]) := by
    have := sl_new (w := w.alloc (.cells #[.int .i64 k, .slice ao len cap] 80)) (e := 5) (cs := #[.int .u8 247, .int .u8 k]) [247, k] (Lt.cons (by omega) (Lt.one (by omega))) rfl 2 rfl (by omega)
    show Sl _ _ _
    simpa using this
  have HMK := Lib.hid mk4
  clear hs hno hc hm hlen h
  go_enter Try.func44, Try.ntmps44
  go_wp2_with fail
  refine (PutUint_any HSK.out (by simp) len (by omega)).mono ?_
  rintro e w1 ⟨v1, rfl, hown⟩
  have hk1 := Kp.trans HKP.out (Kp.trans (kp_alloc _ _) hown.kp)
  have HUL := Lib.hid (uv_ten (n := len) (by omega))
  have hsl1 := hown.sl (by have := HUL.out; simp; omega)
  obtain ⟨ao1, cap1, rfl, -, -, -⟩ := hsl1.open3
  obtain ⟨L1, hL1⟩ : ∃ L1, L1 = ([247, k] ++ uv len).length := ⟨_, rfl⟩
  rw [← hL1] at hsl1 ⊢
  have HL1 : Hid (L1 ≤ 12) := by show _ ≤ _; rw [hL1]; have := HUL.out; simp; omega
  have HL1E := Lib.hid hL1
  have HB1 := Lib.hid ((HB.out.keep (kp_alloc _ _)).keep hown.kp)
  have c11 := HB1.out.cell 1 rfl
  have HS1 := Lib.hid ((HS0.out.keep (kp_alloc _ _)).keep hown.kp)
  have HSL1 := Lib.hid hsl1
  have HK1 := Lib.hid hk1
  clear hk1 hsl1 hown hL1
  have HLS : Hid (Lists ((w1.alloc (.cells #[.int .u8 0, .int .u8 0, .int .u8 0, .int .u8 0] 5)).alloc (.cells #[.slice ao1 L1 cap1, .slice ao len cap, .slice (some ⟨w1.heap.size, 0, none⟩) 4 4] 48)).drew (some ⟨w1.heap.size + 1, 0, none⟩) [[247, k] ++ uv len, xs, [0, 0, 0, 0]]) := by
    show Lists _ _ _
    have h0 := sl_new (w := w1) (e := 5) (cs := #[.int .u8 0, .int .u8 0, .int .u8 0, .int .u8 0]) [0, 0, 0, 0] (Lt.replicate 4 (by omega)) rfl 4 rfl (by omega)
    have h1 := (Lists.three (e := 48) (HSL1.out.keep (kp_alloc _ _)) (HS1.out.keep (kp_alloc _ _)) h0).keep (kp_drew _)
    simpa using h1
  have HKL : Hid (Kp w1 ((w1.alloc (.cells #[.int .u8 0, .int .u8 0, .int .u8 0, .int .u8 0] 5)).alloc (.cells #[.slice ao1 L1 cap1, .slice ao len cap, .slice (some ⟨w1.heap.size, 0, none⟩) 4 4] 48)).drew) :=
    Kp.trans (kp_alloc _ _) (Kp.trans (kp_alloc _ _) (kp_drew _))
  go_wp2_with fail
  have hmk := mk4
  go_region_held3 (fun w' => w'.cell? ⟨w.heap.size, 1, none⟩ = some (.slice ao len cap) ∧ Kp w1 w')
    (first
      | exact ⟨c11, kp_drew _⟩
      | exact ⟨cell_kept c11 hk3, hk3⟩
      | (go_split_ands
         exact ⟨cell_kept (by assumption) (kp_alloc _ _), Kp.trans (by assumption) (kp_alloc _ _)⟩))
    (first
      | (go_at_call 50; refine (Concat_any HLS.out rfl (by simp) (by have := HL1.out; have := HL1E.out; have := HL.out; simp at *; omega)).mono ?_; rintro e w3 ⟨v3, rfl, hown⟩; have hk3 := Kp.trans HKL.out hown.kp))
  obtain ⟨Z, hZ⟩ : ∃ Z, Z = [[247, k] ++ uv len, xs, [0, 0, 0, 0]].flatten := ⟨_, rfl⟩
  rw [← hZ] at hown
  obtain ⟨E, hE⟩ : ∃ E, E = 247 :: body k xs := ⟨_, rfl⟩
  have hZE : Z = E ++ [0, 0, 0, 0] := by rw [hZ, hE]; simp [body, HL.out]
  have hEL : E.length = len + L1 := by
    rw [hE, List.length_cons, body_len, ← HL.out, HL1E.out]; simp; omega
  have hE1 : 1 ≤ E.length := by rw [hE]; simp
  have hown3 := hown.base (Kp.trans HK1.out HKL.out)
  obtain ⟨g, cap3, cur, rfl, hb, hnc, hcm, -, -, -⟩ := hown3.parts (by rw [hZE]; simp)
  obtain ⟨n, hn⟩ : ∃ n, n = Z.length := ⟨_, rfl⟩
  rw [← hn] at hown3 hnc ⊢
  have hnE : n = E.length + 4 := by rw [hn, hZE]; simp
  have hnb : (n : Int) ≤ 2097168 := by have := HL1.out; omega
  have hn4 : 4 ≤ n := by omega
  have hsA : ∀ w, (Instr.slice 48 (.slice (some ⟨g, 0, none⟩) n cap3) (some (.int .i64 ((n : Int) - 4))) none none).run Try.prog w = .ok (.slice (some ⟨g, E.length, none⟩) 4 (cap3 - E.length)) w := by
    intro w
    rw [show ((n : Int) - 4) = ((E.length : Nat) : Int) by omega, slice_from _ _ _ E.length (by omega)]
    unfold sliced
    rw [if_neg (by omega)]
    simp [Addr_add]; omega
  have hsB := fun w => slice_span (some ⟨g, 0, none⟩) n cap3 1 E.length 1 ((n : Int) - 4) rfl (by omega) (by omega) (by omega) w
  have hslB := (hown3.sl (by omega)).cut 1 E.length (by omega) (by omega)
  obtain ⟨VB, hVB⟩ : ∃ VB, VB = sliced (some ⟨g, 0, none⟩) 1 E.length cap3 1 := ⟨_, rfl⟩
  rw [← hVB] at hsB hslB
  obtain ⟨ob, cb, rfl, -, -, -⟩ := hslB.open3
  have htE : Z.take E.length = E := by rw [hZE]; simp
  rw [htE] at hslB hsB
  have hdE : E.drop 1 = body k xs := by rw [hE]; rfl
  rw [hdE] at hslB hsB
  have HSB := Lib.hid hslB; have HOWN3 := Lib.hid hown3; have HTE := Lib.hid htE; have HFR : Hid (E ++ le4 (ck (body k xs)) = fr k xs) := by show _ = _; rw [hE]; rfl
  have HNE := Lib.hid hnE; have HZN := Lib.hid hn
  have HCAP := Lib.hid hcm
  clear hown hZ hE hZE hEL hE1 hslB hown3 htE hdE hVB hn hk3 c11 hmk hnE
  obtain ⟨eE, heE⟩ : ∃ eE, eE = E.length := ⟨_, rfl⟩
  obtain ⟨bE, hbE⟩ : ∃ bE, bE = (body k xs).length := ⟨_, rfl⟩
  rw [← heE] at hsA HTE HNE
  rw [← hbE] at hsB HSB
  have HEE := Lib.hid heE
  clear heE hbE
  go_wp2_with fail
  go_region_held3 (fun w' => Kp w w')
    (first
      | exact Kp.trans HOWN3.out.kp (kp_drew _)
      | exact hk5)
    (first
      | (go_at_call 51; refine (sumOf_any (HSB.out.keep (kp_drew _))).mono ?_; rintro e w4 ⟨⟨v4, rfl, hs4, hn4'⟩, hk4⟩; have hk5 := Kp.trans HOWN3.out.kp (Kp.trans (kp_drew _) hk4))
      | (refine step_ow rfl (.tmp 39) (.tmp 43) rfl (HOWN3.out.keep (Kp.trans (kp_drew _) hk4)) eE 4 _ rfl rfl hs4 rfl (by have := HNE.out; have := HZN.out; simp [le4_len]; omega) ?_; intro w6 hown6; have hk5 := hown6.kp))
  rw [HTE.out, HFR.out] at hown6
  have HO6 := Lib.hid hown6
  clear hown6
  go_wp2_with fail
  go_ret2
  have hfl : (fr k xs).length ≤ 140737488355328 := by rw [← HFR.out, List.length_append, le4_len, ← HEE.out]; have := HNE.out; omega
  exact ⟨⟨_, rfl, HO6.out.sl hfl, HO6.out.new hfl⟩, HO6.out.kp⟩
end By
end Go.Proofs.Ytlfoikjbbbhbdaa
