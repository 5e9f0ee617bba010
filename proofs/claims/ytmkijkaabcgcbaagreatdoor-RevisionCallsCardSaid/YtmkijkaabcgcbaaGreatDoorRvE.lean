/- The bytes of a revision, as the program writes them. Conditions: the slice reads as the files that are named; a package variable of the library holds some integer. -/
import Derived.Test.YtmkijkaabcgcbaaGreatDoorRvC
import Derived.Test.YtmkijkaabcgcbaaGreatDoorWFrame
import Derived.Test.YtmkijkaabcgcbaaGreatDoorMNx
namespace Go.Proofs.YtmkijkaabcgcbaaGreatDoor
namespace By
open Go.RowKit WireN LexN RevN
set_option linter.unusedVariables false
set_option linter.unusedSimpArgs false

set_option maxRecDepth 100000 in
set_option maxHeartbeats 1000000 in
theorem framed_any {v : Value} {xs : List Nat} {w : World} (hs : Sl w v xs) (k : Nat) (hk : 1 ≤ k) (hk2 : k ≤ 255) (h : xs.length ≤ 2097152) :
    Calls Tryz.prog 44 #[.int .i64 k, v] w fun e w' => (∃ v', e = .returned v' ∧ Sl w' v' (fr k xs)) ∧ Kp w w' := by
  obtain ⟨ao, cap, rfl, -, -, -⟩ := hs.open3
  obtain ⟨len, hlen⟩ : ∃ len, len = xs.length := ⟨_, rfl⟩
  rw [← hlen] at hs ⊢
  have HC := Lib.hid (Frame_ok hs k hk hk2 h)
  clear hs hlen h hk hk2
  go_enter Tryz.func44, Tryz.ntmps44
  go_wp2_with fail
  refine HC.out.mono ?_
  rintro e w1 ⟨⟨v1, rfl, hs1, -⟩, hk1⟩
  obtain ⟨ao1, cap1, rfl, -, -, -⟩ := hs1.open3
  have HS := Lib.hid hs1; have HK := Lib.hid hk1
  clear hs1 hk1
  go_wp2_with fail
  go_ret
  exact ⟨⟨_, rfl, HS.out⟩, HK.out⟩

/-- append of bytes to a slice of the call's own, as a step of a region; what grows is told. -/
theorem step_apg {w wx : World} {ops : Array Oper} {o : Oper} {a : Act} {K : Act → World → Prop} {Q : Exit → Act → World → Prop} {E : Prop} (hgd : o.guard = none) (s x : Operand)
    (ho : o.op = .call { callee := .builtin .append, args := #[s, x], argTypes := #[42, 42] })
    {v vs : Value} {zs ys : List Nat} (hs : a.eval s = v) (hx : a.eval x = vs) (hown : Own w wx v zs) (hsl : Sl wx vs ys) (hsum : zs.length + ys.length ≤ 140737488355328)
    (h : ∀ v' w', Own w w' v' (zs ++ ys) → wx.grownBy w' v.ownBlock → K (a.put o.dst v') w') :
    if Region.wanted o (yielded ops a.tmps) = true then Oper.wp Tryz.prog o a wx K Q else E := by
  have hw : Region.wanted o (yielded ops a.tmps) = true := by simp [Region.wanted, hgd]
  rw [if_pos hw]
  obtain ⟨⟨ao, cap, rfl, h2, h3, h4, h5⟩, hl, hsm⟩ := hsl
  obtain ⟨i0, hi, hz0, hz1, hz2⟩ := info_parts info32
  cases ao with
  | none =>
    have hys : ys = [] := by
      rcases h4 with h | ⟨_, _, h, _⟩
      · exact h
      · simp at h
    subst hys
    obtain rfl := h5 rfl
    have hrun := run_append_owned_none (P := Tryz.prog) (w := wx) w.heap.size 42 o.type 5 i0 1 Tryz.underlying42 hi v zs.length (U zs) hown.owns
    unfold Oper.wp
    simp [execOp, ho, resolve, invoke, builtin, hs, hx, hrun, Result.andThen]
    exact h _ _ (by simpa using hown) (World.grownBy.refl _ _)
  | some ad =>
    refine wp_append_own wx s x 42 ho w.heap.size 5 i0 (.int .u8 0) 1 1 Tryz.underlying42 hi hz0 hz1 hz2 rfl (by decide) v zs.length (U zs) hs hown.owns ad ys.length cap (U ys) hx (by rw [U_length, Nat.mul_one]) h4.news (U_one _)
      (by unfold maxLen; omega) (by omega) hown.kp.size (fun v' w' h1 hg _ => h v' w' ⟨by rw [List.length_append, U_append]; exact h1, hown.lt.append hl, ?_⟩ hg)
    exact Below.grown hown.kp hg hown.kp.size (fun k hk => (hown.owns.lt k hk).1)
theorem cell_grown {w w' : World} {g i : Nat} {v u : Value} (hg : w.grownBy w' v.ownBlock) (hc : w.cell? ⟨g, i, none⟩ = some u) (hne : ∀ b, v.ownBlock = some b → b ≠ g) : w'.cell? ⟨g, i, none⟩ = some u := by
  have hb := hg.block g (World.block_lt_of_cell? w _ hc) (fun e => hne g e.symm rfl)
  unfold World.cell? at hc ⊢
  rw [hb]
  exact hc
/-- What Encode answers. -/
def EncV (w : World) (fs : List Fl) (e : Ending) (w' : World) : Prop :=
  ∃ v, e = .returned (.tuple #[v, .int .i64 (chk fs : Nat)]) ∧ (if chk fs = 0 then Own w w' v (enc fs) else v = .slice none 0 0) ∧ Kp w w'
theorem EncV.sl {w w' : World} {fs : List Fl} {e : Ending} (h : EncV w fs e w') : ∃ v, e = .returned (.tuple #[v, .int .i64 (chk fs : Nat)]) ∧ Sl w' v (if chk fs = 0 then enc fs else []) ∧ Kp w w' := by
  obtain ⟨v, h1, h2, h3⟩ := h
  refine ⟨v, h1, ?_, h3⟩
  by_cases h0 : chk fs = 0
  · rw [if_pos h0] at h2 ⊢
    refine h2.sl ?_
    have hl := (chk_ok h0).1
    have := encB_len (fs := fs) (fun f hf => ⟨path_len (chkL_mem (chk_ok h0).2 f hf).1, (chkL_mem (chk_ok h0).2 f hf).2⟩)
    have h4 := uv_ten (n := fs.length) (by omega)
    have h5 := uv_ten (n := (uv fs.length).length) (by omega)
    simp only [enc, List.length_append, fr_len]
    omega
  · rw [if_neg h0] at h2 ⊢
    rw [h2]
    exact Sl.nil _
set_option maxRecDepth 100000 in
set_option maxHeartbeats 2000000 in
theorem Encode_any {u : Value} {fs : List Fl} {w : World} (hr : Rw w u fs) (hm : MX w) :
    Calls Tryz.prog 24 #[.agg #[u]] w (EncV w fs) := by
  obtain ⟨ao, cap, rfl, hcap, hmx, hno⟩ := hr.open3
  obtain ⟨n, hn⟩ : ∃ n, n = fs.length := ⟨_, rfl⟩
  obtain ⟨W0, hW0⟩ : ∃ W0, W0 = w.alloc (.cells #[.slice ao fs.length cap] 28) := ⟨_, rfl⟩
  have HK0 : Hid (Kp w W0) := Lib.hid (by rw [hW0]; exact kp_alloc w _)
  have HB0 : Hid (Blk W0 w.heap.size 28 #[.slice ao fs.length cap]) := Lib.hid (by rw [hW0]; exact Blk.new w _ _)
  have HC := Lib.hid (Check_any (hr.keep HK0.out) (hm.keep HK0.out))
  rw [← hn] at hr hcap hW0 HB0 HC ⊢
  obtain ⟨Q, hQ⟩ : ∃ Q, Q = EncV w fs := ⟨_, rfl⟩
  rw [← hQ]
  have HQ := Lib.hid hQ
  obtain ⟨E, hE⟩ : ∃ E, E = chk fs := ⟨_, rfl⟩
  rw [← hE] at HC
  have HR := Lib.hid hr; have HN := Lib.hid hn; have HEE := Lib.hid hE; have HW0 := Lib.hid hW0
  have hcp : (n : Int) ≤ (cap : Int) := by omega
  have ha0 := HB0.out.cell 0 rfl
  rw [hW0] at ha0
  clear hr hm hn hmx hno hcap hQ hE hW0
  go_enter Tryz.func24, Tryz.ntmps24
  go_wp2_with fail
  rw [← HW0.out]
  clear ha0
  refine HC.out.mono ?_
  rintro e w1 ⟨rfl, hk1⟩
  have HK1 := Lib.hid (Kp.trans HK0.out hk1)
  have a1 := (HB0.out.keep hk1).cell 0 rfl
  clear hk1 HB0
  by_cases hE0 : E = 0
  · subst hE0
    have HOK := Lib.hid (chk_ok HEE.out.symm)
    have hn64 : (n : Int) ≤ 64 := by have := HOK.out.1; have := HN.out; omega
    have hn64' : n ≤ 64 := by omega
    go_wp2_with fail
    go_loopw [5, 16] (fun v i wr => ∃ k : Nat, i = .int .i64 k ∧ k ≤ n ∧ Own w1 wr v (encB (fs.take k))) (fun _ i _ => n - (intOf i).toNat)
    case atStart => exact ⟨0, rfl, Nat.zero_le _, Own.start w1⟩
    case round =>
      obtain ⟨k, rfl, hk, hown⟩ := hrel
      rename World => wx
      have HO := Lib.hid hown
      obtain ⟨oa, oc, ho, -, -⟩ := hown.form
      obtain ⟨ol, hol⟩ : ∃ ol, ol = (encB (fs.take k)).length := ⟨_, rfl⟩
      rw [← hol] at ho
      subst ho
      have HOL := Lib.hid hol
      have HBL : Hid ((encB (fs.take k)).length ≤ 16600 * 64) := Lib.hid (by
        have h1 := encB_len (fs := fs.take k) (fun f hf => ⟨path_len (chkL_mem HOK.out.2 f (List.mem_of_mem_take hf)).1, (chkL_mem HOK.out.2 f (List.mem_of_mem_take hf)).2⟩)
        have h2 : (fs.take k).length ≤ 64 := by rw [List.length_take]; have := HOK.out.1; omega
        omega)
      have ax := cell_kept a1 hown.kp
      have HNB : Hid (∀ b, (Value.slice oa ol oc).ownBlock = some b → b ≠ wx.heap.size) := Lib.hid (fun b hb => by have := (hown.owns.lt b hb).2; omega)
      clear hown hol
      by_cases hkn : k < n
      · obtain ⟨f, hf⟩ : ∃ f, fs[k]? = some f := ⟨_, List.getElem?_eq_getElem (by have := HN.out; omega)⟩
        obtain ⟨b, off, rfl, hcell⟩ := (HR.out.keep (Kp.trans HK1.out HO.out.kp)).cell (by omega)
        obtain ⟨c0, c1⟩ := hcell k f hf
        have hlt := HR.out.lt f (List.mem_of_getElem? hf)
        have hmem := chkL_mem HOK.out.2 f (List.mem_of_getElem? hf)
        have hpl := path_len hmem.1
        have hbl := hmem.2
        have hbs1 := bs_st hlt.1; have hbs2 := bs_st hlt.2
        have hpay := payF_len hpl hbl
        have hz1 : (st f.1).size = f.1.length := st_size _
        have hz2 : (st f.2).size = f.2.length := st_size _
        have C1 : Hid (∀ W : World, Calls Tryz.prog 45 #[.slice none 0 0, .string (st f.1)] W fun e W' => (∃ v', e = .returned v' ∧ Sl W' v' (uv f.1.length ++ f.1)) ∧ Kp W W') := Lib.hid (fun W =>
          (PutText_any (Sl.nil W) (by simp) (st f.1) (by omega)).mono (by
            rintro e W' ⟨v', rfl, ho⟩
            rw [hz1, hbs1] at ho
            have h3 := uv_ten (n := f.1.length) (by omega)
            exact ⟨⟨v', rfl, by simpa using ho.sl (by simp; omega)⟩, ho.kp⟩))
        have C2 : Hid (∀ (W : World) (v : Value), Sl W v (uv f.1.length ++ f.1) → Calls Tryz.prog 45 #[v, .string (st f.2)] W fun e W' => (∃ v', e = .returned v' ∧ Sl W' v' (payF f)) ∧ Kp W W') := Lib.hid (fun W v hv =>
          (PutText_any hv (by have h3 := uv_ten (n := f.1.length) (by omega); simp; omega) (st f.2) (by omega)).mono (by
            rintro e W' ⟨v', rfl, ho⟩
            rw [hz2, hbs2] at ho
            exact ⟨⟨v', rfl, by
              have h4 := ho.sl (by show (payF f).length ≤ _; omega)
              exact h4⟩, ho.kp⟩))
        have C3 : Hid (∀ (W : World) (v : Value), Sl W v (payF f) → Calls Tryz.prog 44 #[.int .i64 1, v] W fun e W' => (∃ v', e = .returned v' ∧ Sl W' v' (encF f)) ∧ Kp W W') := Lib.hid (fun W v hv => framed_any hv 1 (by omega) (by omega) (by omega))
        have HEN : Hid (encB (fs.take (k + 1)) = encB (fs.take k) ++ encF f) := Lib.hid (encB_take hf)
        have HSUM : Hid ((encB (fs.take k)).length + (encF f).length ≤ 140737488355328) := Lib.hid (by have := encF_len hpl hbl; have := HBL.out; omega)
        obtain ⟨S, hS⟩ : ∃ S, S = st f.1 := ⟨_, rfl⟩
        obtain ⟨B, hB⟩ : ∃ B, B = st f.2 := ⟨_, rfl⟩
        obtain ⟨PA, hPA⟩ : ∃ PA, PA = uv f.1.length ++ f.1 := ⟨_, rfl⟩
        obtain ⟨PF, hPF⟩ : ∃ PF, PF = payF f := ⟨_, rfl⟩
        obtain ⟨EF, hEF⟩ : ∃ EF, EF = encF f := ⟨_, rfl⟩
        obtain ⟨ZS, hZS⟩ : ∃ ZS, ZS = encB (fs.take k) := ⟨_, rfl⟩
        rw [← hS, ← hPA] at C1
        rw [← hB, ← hPA, ← hPF] at C2
        rw [← hPF, ← hEF] at C3
        rw [← hEF, ← hZS] at HEN HSUM
        rw [← hZS] at HO HOL
        rw [← hS] at c0
        rw [← hB] at c1
        obtain ⟨WA, hWA⟩ : ∃ WA, WA = wx.alloc (.cells #[.string S, .string B] 55) := ⟨_, rfl⟩
        have HWA := Lib.hid hWA
        have HKA : Hid (Kp wx WA) := Lib.hid (by rw [hWA]; exact kp_alloc wx _)
        have hbA : Blk WA wx.heap.size 55 #[.string S, .string B] := by rw [hWA]; exact Blk.new wx _ _
        have d0 := hbA.cell 0 rfl; have d1 := hbA.cell 1 rfl
        clear hcell hf hlt hmem hpl hbl hbs1 hbs2 hpay hz1 hz2 hS hB hPA hPF hEF hZS hWA hbA HBL
        go_wp2_with fail
        rw [← HWA.out]
        clear c0 c1
        go_region_held3 (fun w' => w'.cell? ⟨wx.heap.size, 0, none⟩ = some (.string S) ∧ w'.cell? ⟨wx.heap.size, 1, none⟩ = some (.string B))
          (first
            | exact ⟨d0, d1⟩
            | exact ⟨cell_grown hg5 (cell_kept d0 hk4) HNB.out, cell_grown hg5 (cell_kept d1 hk4) HNB.out⟩
            | exact ⟨cell_kept d0 hk4, cell_kept d1 hk4⟩
            | exact ⟨cell_kept d0 hk3, cell_kept d1 hk3⟩
            | exact ⟨cell_kept d0 hk2, cell_kept d1 hk2⟩
            | fail "no keep")
          (first
            | (go_at_call 45; refine (C2.out _ _ hs2).mono ?_; rintro e w3 ⟨⟨v3, rfl, hs3⟩, hk3'⟩; have hk3 := Kp.trans hk2 hk3'; obtain ⟨ao3, cap3, rfl, -, -, -⟩ := hs3.open3)
            | (go_at_call 45; refine (C1.out _).mono ?_; rintro e w2 ⟨⟨v2, rfl, hs2⟩, hk2'⟩; have hk2 := Kp.trans (kp_drew WA) hk2'; obtain ⟨ao2, cap2, rfl, -, -, -⟩ := hs2.open3)
            | (go_at_call 44; refine (C3.out _ _ hs3).mono ?_; rintro e w4 ⟨⟨v4, rfl, hs4⟩, hk4'⟩; have hk4 := Kp.trans hk3 hk4'; obtain ⟨ao4, cap4, rfl, -, -, -⟩ := hs4.open3)
            | (refine step_apg rfl (.tmp 20) (.tmp 27) rfl rfl rfl (HO.out.keep (Kp.trans HKA.out hk4)) hs4 HSUM.out ?_; intro v5 w5 hown5 hg5)
            | fail "no arm")
        have HO5 := Lib.hid hown5
        clear hown5 hg5 hs2 hs3 hs4 hk2 hk3 hk4 hk2' hk3' hk4' d0 d1
        go_wp2_with fail
        go_roundw
        case rel => exact ⟨k + 1, by go_num, by omega, by rw [HEN.out]; exact HO5.out⟩
        case measure => simp [intOf]; omega
      · obtain rfl : k = n := by omega
        have HTK : Hid (encB (fs.take k) = encB fs) := Lib.hid (by rw [List.take_of_length_le (by have := HN.out; omega)])
        have hu := uv_ten (n := k) (by omega)
        have C1 : Hid (∀ W : World, Calls Tryz.prog 46 #[.slice none 0 0, .int .u64 k] W fun e W' => (∃ v', e = .returned v' ∧ Sl W' v' (uv k)) ∧ Kp W W') := Lib.hid (fun W =>
          (PutUint_any (Sl.nil W) (by simp) k (by omega)).mono (by
            rintro e W' ⟨v', rfl, ho⟩
            exact ⟨⟨v', rfl, by simpa using ho.sl (by simp; omega)⟩, ho.kp⟩))
        have C2 : Hid (∀ (W : World) (v : Value), Sl W v (uv k) → Calls Tryz.prog 44 #[.int .i64 2, v] W fun e W' => (∃ v', e = .returned v' ∧ Sl W' v' (fr 2 (uv k))) ∧ Kp W W') := Lib.hid (fun W v hv => framed_any hv 2 (by omega) (by omega) (by omega))
        have HSUM : Hid ((encB (fs.take k)).length + (fr 2 (uv k)).length ≤ 140737488355328) := Lib.hid (by
          have := HBL.out
          have h5 := uv_ten (n := (uv k).length) (by omega)
          rw [fr_len]; omega)
        have HFIN : Hid (∀ v w', Own w1 w' v (encB (fs.take k) ++ fr 2 (uv k)) → Q (.returned (.tuple #[v, .int .i64 0])) w') := Lib.hid (fun v w' ho => by
          rw [HQ.out]
          refine ⟨v, by rw [← HEE.out]; rfl, ?_, Kp.trans HK1.out ho.kp⟩
          rw [if_pos HEE.out.symm]
          have h6 := ho.base HK1.out
          rw [HTK.out, HN.out] at h6
          exact h6)
        have hwk : IntKind.u64.wrap (k : Int) = (k : Int) := by rw [IntKind.wrap_u64]; omega
        obtain ⟨ZS, hZS⟩ : ∃ ZS, ZS = encB (fs.take k) := ⟨_, rfl⟩
        obtain ⟨FK, hFK⟩ : ∃ FK, FK = fr 2 (uv k) := ⟨_, rfl⟩
        rw [← hZS] at HO HSUM HFIN
        rw [← hFK] at C2 HSUM HFIN
        clear hZS hFK hu HBL HOL
        go_wp2_with fail
        refine (C1.out _).mono ?_
        rintro e w2 ⟨⟨v2, rfl, hs2⟩, hk2⟩
        obtain ⟨ao2, cap2, rfl, -, -, -⟩ := hs2.open3
        have HS2 := Lib.hid hs2; have HK2 := Lib.hid hk2
        clear hs2 hk2
        go_wp2_with fail
        refine (C2.out _ _ HS2.out).mono ?_
        rintro e w3 ⟨⟨v3, rfl, hs3⟩, hk3⟩
        obtain ⟨ao3, cap3, rfl, -, -, -⟩ := hs3.open3
        have HS3 := Lib.hid hs3; have HK3 := Lib.hid (Kp.trans HK2.out hk3)
        clear hs3 hk3
        go_wp2_with (at_builtin; refine wpList_ap (w := w1) rfl (.tmp 30) (.tmp 36) 42 rfl Tryz.underlying42 _ _ ZS FK rfl rfl (HO.out.keep HK3.out) HS3.out HSUM.out ?_)
        intro v5 w5 hown5
        have HO5 := Lib.hid hown5
        clear hown5
        go_wp2_with fail
        exact HFIN.out _ _ HO5.out
  · have HFIN : Hid (∀ w', Kp w1 w' → Q (.returned (.tuple #[.slice none 0 0, .int .i64 (E : Nat)])) w') := Lib.hid (fun w' hk => by
      rw [HQ.out]
      refine ⟨_, by rw [← HEE.out], ?_, Kp.trans HK1.out hk⟩
      rw [if_neg (by rw [← HEE.out]; exact hE0)])
    have hx1 : ((E : Int) == 0) = false := beq_eq_false_iff_ne.2 (by omega)
    have hx2 : ((E : Int) != 0) = true := by rw [bne_iff_ne]; omega
    clear hE0
    go_wp2_with fail
    exact HFIN.out _ (Kp.refl _)
end By
end Go.Proofs.YtmkijkaabcgcbaaGreatDoor
