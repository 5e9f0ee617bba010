/- The program's Put. Conditions: the slice reads as the files that are named; a package variable of the library holds some integer. -/
import Derived.Test.YtmkijkaabcgcbaaGreatDoorMRj
import Derived.Test.YtmkijkaabcgcbaaGreatDoorRvQ
import Derived.Test.YtmkijkaabcgcbaaGreatDoorRvC
import Derived.Deep.RegionHeld3
namespace Go.Proofs.YtmkijkaabcgcbaaGreatDoor
namespace By
open Go.RowKit Go.Shelf WireN LexN RevN
set_option linter.unusedVariables false
set_option linter.unusedSimpArgs false

theorem elemFl : Tryz.prog.elem 26 = 55 := by kernel_rfl
theorem sizeFl (w : World) : (sizeOf (Tryz.prog.elem 26)).run Tryz.prog w = .ok 2 w := by
  obtain ⟨i0, hi, hz0, hz1, hz2⟩ := info_parts infoFile
  rw [elemFl]
  simp [sizeOf, typeInfo, hi, hz1]
theorem undFl : Tryz.prog.underlying 26 = some (.slice (Tryz.prog.elem 26)) := by rw [elemFl]; exact Tryz.underlying26
theorem fl_to (ao : Option Addr) (len cap j : Nat) (J : Int) (hJ : J = j) (hj : j ≤ cap) (w : World) :
    (Instr.slice 26 (.slice ao len cap) none (some (.int .i64 J)) none).run Tryz.prog w = .ok (sliced ao 0 j cap 2) w := by
  subst hJ
  rw [run_slice_h w 26 ao len cap undFl .i64 (j : Int) (by omega) (by omega), sizeFl, Int.toNat_natCast]
  rfl
theorem fl_from (ao : Option Addr) (len cap j : Nat) (J : Int) (hJ : J = j) (hj : j ≤ len) (w : World) :
    (Instr.slice 26 (.slice ao len cap) (some (.int .i64 J)) none none).run Tryz.prog w = .ok (sliced ao j len cap 2) w := by
  subst hJ
  rw [run_slice_l w 26 ao len cap undFl .i64 (j : Int) (by omega) (by omega), sizeFl, Int.toNat_natCast]
  rfl
theorem Rw.cut {w : World} {ao : Option Addr} {n cap : Nat} {fs : List Fl} (h : Rw w (.slice ao n cap) fs) (l m : Nat) (hlm : l ≤ m) (hm : m ≤ n) : Rw w (sliced ao l m cap 2) ((fs.take m).drop l) := by
  obtain ⟨⟨a', c', e, h2, h3, h4, h5⟩, hl, hs⟩ := h
  simp only [Value.slice.injEq] at e
  obtain ⟨rfl, hn, rfl⟩ := e
  have hlen : ((fs.take m).drop l).length = m - l := by rw [List.length_drop, List.length_take]; omega
  refine ⟨⟨if cap = l then ao else ao.map (·.add (l * 2)), cap - l, ?_, by omega, by omega, ?_, ?_⟩, fun f hf => hl f (List.mem_of_mem_take (List.mem_of_mem_drop hf)), fun f hf => hs f (List.mem_of_mem_take (List.mem_of_mem_drop hf))⟩
  · unfold sliced
    rw [hlen]
  · by_cases hc : cap = l
    · refine .inl (List.length_eq_zero_iff.1 ?_)
      omega
    · rcases h4 with rfl | ⟨b, off, rfl, hcell⟩
      · exact .inl (by simp)
      · refine .inr ⟨b, off + l * 2, ?_, fun j f hf => ?_⟩
        · rw [if_neg hc]
          show some ((⟨b, off, none⟩ : Addr).add (l * 2)) = _
          rw [Addr_add]
        · rw [List.getElem?_drop] at hf
          have hj : l + j < m := by
            have := (List.getElem?_eq_some_iff.1 hf).1
            rw [List.length_take] at this
            omega
          rw [List.getElem?_take, if_pos hj] at hf
          obtain ⟨c0, c1⟩ := hcell (l + j) f hf
          have e1 : off + (l + j) * 2 = off + l * 2 + j * 2 := by omega
          rw [e1] at c0 c1
          exact ⟨c0, c1⟩
  · intro he
    by_cases hc : cap = l
    · omega
    · rw [if_neg hc] at he
      cases ao with
      | none => have := h5 rfl; omega
      | some a => simp at he
theorem Rw.one {w : World} {b : Nat} {t : TypeId} {f : Fl} (h : Blk w b t #[.string (st f.1), .string (st f.2)]) (hl : Lt f.1 ∧ Lt f.2) (hs : f.1.length ≤ maxLen ∧ f.2.length ≤ maxLen) : Rw w (.slice (some ⟨b, 0, none⟩) 1 1) [f] := by
  refine ⟨⟨some ⟨b, 0, none⟩, 1, rfl, Nat.le_refl _, by unfold maxLen; omega, .inr ⟨b, 0, rfl, fun j g hg => ?_⟩, fun h => nomatch h⟩, fun g hg => ?_, fun g hg => ?_⟩
  · match j, hg with
    | 0, hg =>
      obtain rfl : f = g := by simpa using hg
      exact ⟨h.cell 0 rfl, h.cell 1 rfl⟩
    | j + 1, hg => simp at hg
  · obtain rfl : g = f := by simpa using hg
    exact hl
  · obtain rfl : g = f := by simpa using hg
    exact hs
/-- What Put, Remove and Move answer. -/
def RevR (w : World) (r : Nat × List Fl) (e : Ending) (w' : World) : Prop :=
  ∃ v, e = .returned (.tuple #[.agg #[v], .int .i64 (r.1 : Nat)]) ∧ Rw w' v r.2 ∧ (∀ b, v.ownBlock = some b → w.heap.size ≤ b) ∧ Kp w w'
/-- What is read from a slice on. -/
theorem drop_take_len {fs : List Fl} {n l : Nat} (hn : n = fs.length) : (fs.take n).drop l = fs.drop l := by rw [hn, List.take_length]
set_option maxRecDepth 100000 in
set_option maxHeartbeats 4000000 in
theorem Put_any {u : Value} {fs : List Fl} {p b : List Nat} {w : World} (hr : Rw w u fs) (hp : Lt p) (hb : Lt b) (hm : MX w) :
    Calls Tryz.prog 17 #[.agg #[u], .string (st p), .string (st b)] w (RevR w (putF fs p b)) := by
  obtain ⟨ao, cap, rfl, hcap, hmx, hno⟩ := hr.open3
  obtain ⟨n, hn⟩ : ∃ n, n = fs.length := ⟨_, rfl⟩
  rw [← hn] at hr hcap ⊢
  obtain ⟨Q, hQ⟩ : ∃ Q, Q = RevR w (putF fs p b) := ⟨_, rfl⟩
  rw [← hQ]
  obtain ⟨xb, hxb⟩ : ∃ xb, xb = w.heap.size := ⟨_, rfl⟩
  obtain ⟨rb, hrb⟩ : ∃ rb, rb = w.heap.size + 1 := ⟨_, rfl⟩
  obtain ⟨Wa, hWa⟩ : ∃ W, W = w.alloc (.cells #[.slice ao n cap] 28) := ⟨_, rfl⟩
  obtain ⟨W0, hW0⟩ : ∃ W, W = Wa.alloc (.cells #[.slice none 0 0] 28) := ⟨_, rfl⟩
  have hz : Wa.heap.size = w.heap.size + 1 := by rw [hWa]; simp
  have k1 : Kp w Wa := by rw [hWa]; exact kp_alloc w _
  have k2 : Kp Wa W0 := by rw [hW0]; exact kp_alloc Wa _
  have HK0 : Hid (Kp w W0) := Lib.hid (Kp.trans k1 k2)
  have XB0 : Hid (Blk W0 xb 28 #[.slice ao n cap]) := Lib.hid (by
    have : Blk Wa w.heap.size 28 #[.slice ao n cap] := by rw [hWa]; exact Blk.new _ _ _
    rw [hxb]
    exact this.keep k2)
  have RB0 : Hid (Blk W0 rb 28 #[.slice none 0 0]) := Lib.hid (by rw [hW0, hrb, ← hz]; exact Blk.new _ _ _)
  have HW0 : Hid (W0 = (w.alloc (.cells #[.slice ao n cap] 28)).alloc (.cells #[.slice none 0 0] 28)) := Lib.hid (by rw [hW0, hWa])
  have HXB := Lib.hid hxb; have HRB := Lib.hid hrb
  have GR : Hid (w.heap.size ≤ rb) := Lib.hid (by omega)
  have HR0 := Lib.hid (hr.keep HK0.out)
  have HM0 := Lib.hid (hm.keep HK0.out)
  have HC := Lib.hid (Check_any HR0.out HM0.out)
  have FIN : Hid (∀ (a : Act) (W X : World) (v : Value) (er : Nat) (gs : List Fl), a.defers = [] → a.tmps.getD 6 undef = .pointer (some ⟨rb, 0, none⟩) → a.tmps.getD 7 undef = .int .i64 (er : Nat) → Kp W0 X → W = X.setCell ⟨rb, 0, none⟩ v →
      putF fs p b = (er, gs) → (∀ W', Only rb X W' → Rw W' v gs) → (∀ b, v.ownBlock = some b → w.heap.size ≤ b) → bodyPost Tryz.prog Tryz.f17 Q .ret a W) := Lib.hid (by
    intro a W X v er gs h0 h2 h3 hk hW hd hv hnw
    have oW : Only rb X W := by rw [hW]; exact (Only.refl rb X).set 0 _
    have hbW : Blk W rb 28 #[v] := by rw [hW]; exact (RB0.out.keep hk).set 0 _
    have e0 := hbW.cell 0 rfl
    have h2' : a.tmps[6]?.getD undef = .pointer (some ⟨rb, 0, none⟩) := by simpa using h2
    have h3' : a.tmps[7]?.getD undef = .int .i64 (er : Nat) := by simpa using h3
    refine bodyPost_ret (v := .tuple #[.agg #[v], .int .i64 (er : Nat)]) (by simp [results, Tryz.results17, go_sem, h2', h3', e0]) h0 ?_
    rw [hQ]
    exact ⟨v, by rw [hd], by rw [hd]; exact hv W oW, hnw, Only.kp (Kp.trans HK0.out hk) oW GR.out⟩)
  have NIL : Hid (∀ (X W' : World), Only rb X W' → Rw W' (.slice none 0 0) []) := Lib.hid (fun _ W' _ => Rw.nil W')
  have HN := Lib.hid hn; have HP := Lib.hid hp; have HB := Lib.hid hb
  have hcp : (n : Int) ≤ (cap : Int) := by omega
  have HCP : Hid (n ≤ cap) := Lib.hid hcap
  have x0 := XB0.out.cell 0 rfl
  rw [hW0, hWa] at x0
  obtain ⟨er, her⟩ : ∃ er, er = chk fs := ⟨_, rfl⟩
  rw [← her] at HC
  have HER := Lib.hid her
  clear hr hp hb hm hn hcap hmx hno hQ hxb hrb hWa hW0 hz k1 k2 her
  go_enter Tryz.func17, Tryz.ntmps17
  go_wp2_with fail
  rw [← HW0.out, ← HRB.out, ← HXB.out]
  clear x0
  refine HC.out.mono ?_
  rintro e w1 ⟨rfl, hk1⟩
  have HK1 := Lib.hid hk1
  have xb1 := XB0.out.keep hk1
  have x0 := xb1.cell 0 rfl
  have rb1 := RB0.out.keep hk1
  have r0 := rb1.cell 0 rfl; have f0 := rb1.free 0
  clear hk1 xb1 rb1
  by_cases he : er = 0
  · subst he
    have HOK : Hid (chk fs = 0) := Lib.hid HER.out.symm
    have HPC := Lib.hid (PathA HP.out (HM0.out.keep HK1.out))
    have HD0 : Hid (putF fs p b = if pathB p = false then (6, []) else if 16384 < b.length ∨ 64 < (putL fs (p, b)).length then (2, []) else (0, putL fs (p, b))) := Lib.hid (by unfold putF; rw [if_neg (by rw [HOK.out]; simp)])
    obtain ⟨pbl, hpbl⟩ : ∃ x, x = pathB p := ⟨_, rfl⟩
    rw [← hpbl] at HPC HD0
    have HPB := Lib.hid hpbl
    obtain ⟨P, hP⟩ : ∃ P, P = st p := ⟨_, rfl⟩
    rw [← hP] at HPC ⊢
    have HPP := Lib.hid hP
    clear hpbl hP
    go_wp2_with fail
    refine HPC.out.mono ?_
    rintro e w2 ⟨rfl, hk2⟩
    have HK2 := Lib.hid (Kp.trans HK1.out hk2)
    have xb2 := XB0.out.keep HK2.out
    have rb2 := RB0.out.keep HK2.out
    have x0 := xb2.cell 0 rfl
    have r0 := rb2.cell 0 rfl; have f0 := rb2.free 0
    clear hk2 xb2 rb2
    cases pbl with
    | false =>
      have HD : Hid (putF fs p b = (6, [])) := Lib.hid (by rw [HD0.out]; simp)
      go_wp2_with fail
      exact FIN.out _ _ w2 _ 6 [] rfl rfl rfl HK2.out rfl HD.out (NIL.out w2) (fun b hb => by simp [Value.ownBlock] at hb)
    | true =>
      have HD1 : Hid (putF fs p b = if 16384 < b.length ∨ 64 < (putL fs (p, b)).length then (2, []) else (0, putL fs (p, b))) := Lib.hid (by rw [HD0.out]; simp)
      have hPL := place_any (HR0.out.keep HK2.out) HP.out HOK.out
      rw [← HPP.out] at hPL
      obtain ⟨q, hq⟩ : ∃ q, q = pos fs p := ⟨_, rfl⟩
      obtain ⟨hs, hhs⟩ : ∃ hs, hs = hasP fs p := ⟨_, rfl⟩
      rw [← hq, ← hhs] at hPL
      have HPL := Lib.hid hPL
      have hqn : q ≤ n := by rw [hq, HN.out]; exact pos_le fs p
      have hhq : hs = true → q < n := by
        intro h
        rw [hhs] at h
        unfold hasP at h
        rw [← hq] at h
        by_cases hlt : q < fs.length
        · rw [HN.out]; exact hlt
        · rw [List.getElem?_eq_none (by omega)] at h
          cases h
      have HPUT : Hid (putL fs (p, b) = fs.take q ++ ([(p, b)] ++ (if hs = true then fs.drop (q + 1) else fs.drop q))) := Lib.hid (by unfold putL; simp only [← hq, ← hhs])
      have hn64 : n ≤ 64 := by rw [HN.out]; exact (chk_ok HOK.out).1
      have hqi : (q : Int) ≤ (n : Int) := by omega
      have hni : (n : Int) ≤ 64 := by omega
      have HSZ : Hid (∀ f ∈ fs, f.1.length ≤ 1000000 ∧ f.2.length ≤ 1000000) := Lib.hid (fun f hf => by
        have h1 := chkL_mem (chk_ok HOK.out).2 f hf
        have h2 := path_len h1.1
        exact ⟨by omega, by omega⟩)
      have hpl : p.length ≤ 80 := path_len HPB.out.symm
      have HPLN := Lib.hid hpl
      clear hPL hq hhs hpl
      go_wp2_with fail
      refine HPL.out.mono ?_
      rintro e w3 ⟨rfl, hk3⟩
      have HK3 := Lib.hid (Kp.trans HK2.out hk3)
      have xb3 := XB0.out.keep HK3.out
      have rb3 := RB0.out.keep HK3.out
      have x0 := xb3.cell 0 rfl
      have XB3 := Lib.hid xb3
      have HR3 := Lib.hid (HR0.out.keep HK3.out)
      have hfr : ∀ w, (Instr.slice 26 (.slice ao n cap) (some (.int .i64 (q : Nat))) none none).run Tryz.prog w = .ok (sliced ao q n cap 2) w := fun w => fl_from _ _ _ q _ rfl hqn w
      have hto : ∀ w, (Instr.slice 26 (.slice ao n cap) none (some (.int .i64 (q : Nat))) none).run Tryz.prog w = .ok (sliced ao 0 q cap 2) w := fun w => fl_to _ _ _ q _ rfl (by have := HCP.out; omega) w
      have h1 := HR3.out.cut q n hqn (Nat.le_refl _)
      rw [drop_take_len HN.out] at h1
      have h2 := HR3.out.cut 0 q (Nat.zero_le _) hqn
      rw [List.drop_zero] at h2
      obtain ⟨la, lc, hL, -, -, -⟩ := h2.open3
      have hll : (fs.take q).length = q := by rw [List.length_take, ← HN.out]; omega
      rw [hll] at hL
      rw [hL] at hto h2
      have HL2 := Lib.hid h2
      obtain ⟨sa, sc, hS, hsc, -, -⟩ := h1.open3
      have hsl : (fs.drop q).length = n - q := by rw [List.length_drop, ← HN.out]
      rw [hsl] at hS hsc
      rw [hS] at hfr h1
      have HS1 := Lib.hid h1
      obtain ⟨bl, hbl⟩ : ∃ bl, bl = b.length := ⟨_, rfl⟩
      have qs : ∀ w, (Builtin.len_ #[9] 3 #[.string (st b)]).run Tryz.prog w = .ok (goInt bl) w := fun w => by rw [hbl]; exact len w
      have HBL := Lib.hid hbl
      obtain ⟨B, hB⟩ : ∃ B, B = st b := ⟨_, rfl⟩
      have HBB := Lib.hid hB
      rw [← hB] at qs ⊢
      clear hk3 xb3 h1 h2 hL hS hll hsl hbl hB r0 f0
      cases hs with
      | false =>
        obtain ⟨BL, hBL⟩ : ∃ BL, BL = fs.drop q := ⟨_, rfl⟩
        have hmem : ∀ f ∈ BL, f ∈ fs := fun f hf => List.mem_of_mem_drop (hBL ▸ hf)
        obtain ⟨d, hd⟩ : ∃ d, d = n - q := ⟨_, rfl⟩
        have hbl2 : BL.length = d := by rw [hBL, List.length_drop, ← HN.out, hd]
        obtain ⟨ba, hba⟩ : ∃ ba, ba = sa := ⟨_, rfl⟩
        obtain ⟨bc, hbc⟩ : ∃ bc, bc = sc := ⟨_, rfl⟩
        rw [← hBL, ← hd, ← hba, ← hbc] at HS1
        rw [← hd, ← hba, ← hbc] at hfr
        have HBS : Hid (Rw w3 (.slice ba d bc) BL) := Lib.hid HS1.out
        have hdn : d ≤ 64 := by omega
        clear hd hba hbc HS1 hsc hhq
        have HPUT2 : Hid (putL fs (p, b) = fs.take q ++ ([(p, b)] ++ BL)) := Lib.hid (by rw [HPUT.out]; simp [hBL])
        have HLEN : Hid ((putL fs (p, b)).length = q + 1 + d) := Lib.hid (by rw [HPUT2.out, List.length_append, List.length_append, hbl2, List.length_take, ← HN.out]; simp; omega)
        have hdi : (d : Int) ≤ 64 := by omega
        clear hBL hbl2
        by_cases h1 : 16384 < bl
        · have i1 : (16384 : Int) < (bl : Int) := by omega
          have HD : Hid (putF fs p b = (2, [])) := Lib.hid (by rw [HD1.out, if_pos (.inl (by rw [← HBL.out]; exact h1))])
          have r0 := rb3.cell 0 rfl; have f0 := rb3.free 0
          clear h1 rb3
          go_wp2_with fail
          exact FIN.out _ _ w3 _ 2 [] rfl rfl rfl HK3.out rfl HD.out (NIL.out w3) (fun b hb => by simp [Value.ownBlock] at hb)
        · have i1 : (bl : Int) ≤ (16384 : Int) := by omega
          have hbll : b.length ≤ 16384 := by rw [← HBL.out]; omega
          by_cases h2 : 64 < q + 1 + d
          · have i2 : (64 : Int) < (q : Int) + 1 + (d : Int) := by omega
            have HD : Hid (putF fs p b = (2, [])) := Lib.hid (by rw [HD1.out, if_pos (.inr (by rw [HLEN.out]; exact h2))])
            have r0 := rb3.cell 0 rfl; have f0 := rb3.free 0
            clear h1 h2 rb3 hbll
            go_wp2_with fail
            exact FIN.out _ _ w3 _ 2 [] rfl rfl rfl HK3.out rfl HD.out (NIL.out w3) (fun b hb => by simp [Value.ownBlock] at hb)
          · have i2 : (q : Int) + 1 + (d : Int) ≤ (64 : Int) := by omega
            have HD : Hid (putF fs p b = (0, putL fs (p, b))) := Lib.hid (by rw [HD1.out, if_neg (by rw [HLEN.out, ← HBL.out]; omega)])
            obtain ⟨W4, hW4⟩ : ∃ W, W = w3.alloc (.cells #[.string P, .string B] 55) := ⟨_, rfl⟩
            have k4 : Kp w3 W4 := by rw [hW4]; exact kp_alloc w3 _
            have hone : Rw W4 (.slice (some ⟨w3.heap.size, 0, none⟩) 1 1) [(p, b)] := by
              refine Rw.one (t := 55) ?_ ⟨HP.out, HB.out⟩ ⟨by have := HPLN.out; unfold maxLen; show p.length ≤ _; omega, by unfold maxLen; show b.length ≤ _; omega⟩
              rw [hW4, HPP.out, HBB.out]
              exact Blk.new _ _ _
            have HLS := Lib.hid (LisF.three (e := 26) (HL2.out.keep k4) hone (HBS.out.keep k4))
            have HJ := Lib.hid (joinF_any (n := 3) (cap := 3) HLS.out rfl (by omega) (by
              have h3 := HLEN.out
              rw [HPUT2.out] at h3
              simp only [List.flatten_cons, List.flatten_nil, List.append_nil]
              rw [h3]
              omega) (by
              intro f hf
              simp only [List.flatten_cons, List.flatten_nil, List.append_nil] at hf
              rcases List.mem_append.1 hf with hf | hf
              · exact HSZ.out f (List.mem_of_mem_take hf)
              · rcases List.mem_append.1 hf with hf | hf
                · obtain rfl : f = (p, b) := by simpa using hf
                  have := HPLN.out
                  exact ⟨by show p.length ≤ _; omega, by show b.length ≤ _; omega⟩
                · exact HSZ.out f (hmem f hf)))
            have hfl : [fs.take q, [(p, b)], BL].flatten = putL fs (p, b) := by rw [HPUT2.out]; simp
            rw [hfl] at HJ
            have hz4 : W4.heap.size = w3.heap.size + 1 := by rw [hW4]; simp
            have K5 : Hid (Kp w3 (W4.alloc (.cells #[.slice la q lc, .slice (some ⟨w3.heap.size, 0, none⟩) 1 1, .slice ba d bc] 26))) := Lib.hid (Kp.trans k4 (kp_alloc W4 _))
            rw [hz4] at HJ
            rw [hW4] at HJ K5
            have RB3 := Lib.hid rb3
            clear h1 h2 hbll k4 hone hfl hz4 hW4 rb3 hmem
            go_wp2_with fail
            refine HJ.out.mono ?_
            rintro e w5 ⟨v, rfl, hrv, hnew, hk5⟩
            have HK5 := Lib.hid (Kp.trans HK3.out (Kp.trans K5.out hk5))
            have rb5 := RB0.out.keep HK5.out
            have r0 := rb5.cell 0 rfl; have f0 := rb5.free 0
            have HRV := Lib.hid hrv
            obtain ⟨va, vc, hv, -, -, -⟩ := hrv.open3
            have HNE : Hid (∀ b, v.ownBlock = some b → b ≠ rb) := Lib.hid (fun b hb e => by have h3 := hnew b hb; have h4 := RB3.out.lt; have h5 := K5.out.size; omega)
            subst hv
            have HNW : Hid (∀ b, (Value.slice va _ vc).ownBlock = some b → w.heap.size ≤ b) := Lib.hid (fun b hb => by have h3 := hnew b hb; have h4 := (Kp.trans HK0.out (Kp.trans HK3.out K5.out)).size; omega)
            clear hk5 rb5 hrv hnew
            go_wp2_with fail
            exact FIN.out _ _ w5 _ 0 _ rfl rfl rfl HK5.out rfl HD.out (fun W' ho => HRV.out.only ho HNE.out) HNW.out
      | true =>
        obtain ⟨BL, hBL⟩ : ∃ BL, BL = fs.drop (q + 1) := ⟨_, rfl⟩
        have hmem : ∀ f ∈ BL, f ∈ fs := fun f hf => List.mem_of_mem_drop (hBL ▸ hf)
        have hqlt := hhq rfl
        obtain ⟨d0, hd0⟩ : ∃ d, d = n - q := ⟨_, rfl⟩
        obtain ⟨d, hd⟩ : ∃ d, d = n - q - 1 := ⟨_, rfl⟩
        have hbl2 : BL.length = d := by rw [hBL, List.length_drop, ← HN.out, hd]; omega
        rw [← hd0] at HS1 hfr hsc
        have hc1 := HS1.out.cut 1 d0 (by omega) (Nat.le_refl _)
        have hdd : (fs.drop q).take d0 = fs.drop q := List.take_of_length_le (by rw [List.length_drop, ← HN.out]; omega)
        rw [hdd, List.drop_drop, ← hBL] at hc1
        have hfr1 : ∀ w, (Instr.slice 26 (.slice sa d0 sc) (some (.int .i64 1)) none none).run Tryz.prog w = .ok (sliced sa 1 d0 sc 2) w := fun w => fl_from _ _ _ 1 _ rfl (by omega) w
        obtain ⟨ba, bc, hbe, -, -, -⟩ := hc1.open3
        rw [hbl2] at hbe
        rw [hbe] at hc1 hfr1
        have HBS : Hid (Rw w3 (.slice ba d bc) BL) := Lib.hid hc1
        have hdn : d ≤ 64 := by omega
        have hd0i : (d0 : Int) ≤ 64 := by omega
        clear hd hd0 HS1 hsc hhq hqlt hc1 hdd hbe
        have HPUT2 : Hid (putL fs (p, b) = fs.take q ++ ([(p, b)] ++ BL)) := Lib.hid (by rw [HPUT.out]; simp [hBL])
        have HLEN : Hid ((putL fs (p, b)).length = q + 1 + d) := Lib.hid (by rw [HPUT2.out, List.length_append, List.length_append, hbl2, List.length_take, ← HN.out]; simp; omega)
        have hdi : (d : Int) ≤ 64 := by omega
        clear hBL hbl2
        by_cases h1 : 16384 < bl
        · have i1 : (16384 : Int) < (bl : Int) := by omega
          have HD : Hid (putF fs p b = (2, [])) := Lib.hid (by rw [HD1.out, if_pos (.inl (by rw [← HBL.out]; exact h1))])
          have r0 := rb3.cell 0 rfl; have f0 := rb3.free 0
          clear h1 rb3
          go_wp2_with fail
          exact FIN.out _ _ w3 _ 2 [] rfl rfl rfl HK3.out rfl HD.out (NIL.out w3) (fun b hb => by simp [Value.ownBlock] at hb)
        · have i1 : (bl : Int) ≤ (16384 : Int) := by omega
          have hbll : b.length ≤ 16384 := by rw [← HBL.out]; omega
          by_cases h2 : 64 < q + 1 + d
          · have i2 : (64 : Int) < (q : Int) + 1 + (d : Int) := by omega
            have HD : Hid (putF fs p b = (2, [])) := Lib.hid (by rw [HD1.out, if_pos (.inr (by rw [HLEN.out]; exact h2))])
            have r0 := rb3.cell 0 rfl; have f0 := rb3.free 0
            clear h1 h2 rb3 hbll
            go_wp2_with fail
            exact FIN.out _ _ w3 _ 2 [] rfl rfl rfl HK3.out rfl HD.out (NIL.out w3) (fun b hb => by simp [Value.ownBlock] at hb)
          · have i2 : (q : Int) + 1 + (d : Int) ≤ (64 : Int) := by omega
            have HD : Hid (putF fs p b = (0, putL fs (p, b))) := Lib.hid (by rw [HD1.out, if_neg (by rw [HLEN.out, ← HBL.out]; omega)])
            obtain ⟨W4, hW4⟩ : ∃ W, W = w3.alloc (.cells #[.string P, .string B] 55) := ⟨_, rfl⟩
            have k4 : Kp w3 W4 := by rw [hW4]; exact kp_alloc w3 _
            have hone : Rw W4 (.slice (some ⟨w3.heap.size, 0, none⟩) 1 1) [(p, b)] := by
              refine Rw.one (t := 55) ?_ ⟨HP.out, HB.out⟩ ⟨by have := HPLN.out; unfold maxLen; show p.length ≤ _; omega, by unfold maxLen; show b.length ≤ _; omega⟩
              rw [hW4, HPP.out, HBB.out]
              exact Blk.new _ _ _
            have HLS := Lib.hid (LisF.three (e := 26) (HL2.out.keep k4) hone (HBS.out.keep k4))
            have HJ := Lib.hid (joinF_any (n := 3) (cap := 3) HLS.out rfl (by omega) (by
              have h3 := HLEN.out
              rw [HPUT2.out] at h3
              simp only [List.flatten_cons, List.flatten_nil, List.append_nil]
              rw [h3]
              omega) (by
              intro f hf
              simp only [List.flatten_cons, List.flatten_nil, List.append_nil] at hf
              rcases List.mem_append.1 hf with hf | hf
              · exact HSZ.out f (List.mem_of_mem_take hf)
              · rcases List.mem_append.1 hf with hf | hf
                · obtain rfl : f = (p, b) := by simpa using hf
                  have := HPLN.out
                  exact ⟨by show p.length ≤ _; omega, by show b.length ≤ _; omega⟩
                · exact HSZ.out f (hmem f hf)))
            have hfl : [fs.take q, [(p, b)], BL].flatten = putL fs (p, b) := by rw [HPUT2.out]; simp
            rw [hfl] at HJ
            have hz4 : W4.heap.size = w3.heap.size + 1 := by rw [hW4]; simp
            have K5 : Hid (Kp w3 (W4.alloc (.cells #[.slice la q lc, .slice (some ⟨w3.heap.size, 0, none⟩) 1 1, .slice ba d bc] 26))) := Lib.hid (Kp.trans k4 (kp_alloc W4 _))
            rw [hz4] at HJ
            rw [hW4] at HJ K5
            have RB3 := Lib.hid rb3
            clear h1 h2 hbll k4 hone hfl hz4 hW4 rb3 hmem
            go_wp2_with fail
            refine HJ.out.mono ?_
            rintro e w5 ⟨v, rfl, hrv, hnew, hk5⟩
            have HK5 := Lib.hid (Kp.trans HK3.out (Kp.trans K5.out hk5))
            have rb5 := RB0.out.keep HK5.out
            have r0 := rb5.cell 0 rfl; have f0 := rb5.free 0
            have HRV := Lib.hid hrv
            obtain ⟨va, vc, hv, -, -, -⟩ := hrv.open3
            have HNE : Hid (∀ b, v.ownBlock = some b → b ≠ rb) := Lib.hid (fun b hb e => by have h3 := hnew b hb; have h4 := RB3.out.lt; have h5 := K5.out.size; omega)
            subst hv
            have HNW : Hid (∀ b, (Value.slice va _ vc).ownBlock = some b → w.heap.size ≤ b) := Lib.hid (fun b hb => by have h3 := hnew b hb; have h4 := (Kp.trans HK0.out (Kp.trans HK3.out K5.out)).size; omega)
            clear hk5 rb5 hrv hnew
            go_wp2_with fail
            exact FIN.out _ _ w5 _ 0 _ rfl rfl rfl HK5.out rfl HD.out (fun W' ho => HRV.out.only ho HNE.out) HNW.out
  · have hx1 : ((er : Int) == 0) = false := beq_eq_false_iff_ne.2 (by omega)
    have hx2 : ((er : Int) != 0) = true := by rw [bne_iff_ne]; omega
    have HD : Hid (putF fs p b = (er, [])) := Lib.hid (by unfold putF; rw [if_pos (by rw [← HER.out]; exact he), ← HER.out])
    clear he
    go_wp2_with fail
    exact FIN.out _ _ w1 _ er [] rfl rfl rfl HK1.out rfl HD.out (NIL.out w1) (fun b hb => by simp [Value.ownBlock] at hb)
end By
end Go.Proofs.YtmkijkaabcgcbaaGreatDoor

/- The program's Find, Same and IsSource. Conditions: the slices read as the files that are named; a package variable of the library holds some integer. -/
namespace Go.Proofs.YtmkijkaabcgcbaaGreatDoor
namespace By
open Go.RowKit Go.Shelf WireN LexN RevN
set_option linter.unusedVariables false
set_option linter.unusedSimpArgs false

set_option maxRecDepth 100000 in
set_option maxHeartbeats 4000000 in
theorem Find_any {u : Value} {fs : List Fl} {p : List Nat} {w : World} (hr : Rw w u fs) (hp : Lt p) (hm : MX w) :
    Calls Tryz.prog 13 #[.agg #[u], .string (st p)] w fun e w' => e = .returned (.tuple #[.string (st (findF fs p).1), .bool (findF fs p).2]) ∧ Kp w w' := by
  obtain ⟨ao, cap, rfl, hcap, hmx, hno⟩ := hr.open3
  obtain ⟨n, hn⟩ : ∃ n, n = fs.length := ⟨_, rfl⟩
  rw [← hn] at hr hcap ⊢
  obtain ⟨W0, hW0⟩ : ∃ W, W = w.alloc (.cells #[.slice ao n cap] 28) := ⟨_, rfl⟩
  obtain ⟨xb, hxb⟩ : ∃ xb, xb = w.heap.size := ⟨_, rfl⟩
  have HK0 : Hid (Kp w W0) := Lib.hid (by rw [hW0]; exact kp_alloc w _)
  have XB0 : Hid (Blk W0 xb 28 #[.slice ao n cap]) := Lib.hid (by rw [hW0, hxb]; exact Blk.new w _ _)
  have HR0 := Lib.hid (hr.keep HK0.out)
  have HC := Lib.hid (Check_any HR0.out (hm.keep HK0.out))
  have HW0 := Lib.hid hW0; have HXB := Lib.hid hxb
  have HN := Lib.hid hn; have HP := Lib.hid hp
  have hcp : (n : Int) ≤ (cap : Int) := by omega
  have x0 := XB0.out.cell 0 rfl
  rw [hW0] at x0
  obtain ⟨R, hR⟩ : ∃ R, R = findF fs p := ⟨_, rfl⟩
  rw [← hR]
  have HRR := Lib.hid hR
  obtain ⟨er, her⟩ : ∃ er, er = chk fs := ⟨_, rfl⟩
  rw [← her] at HC
  have HER := Lib.hid her
  clear hr hp hm hn hcap hmx hno hxb hW0 her hR
  go_enter Tryz.func13, Tryz.ntmps13
  go_wp2_with fail
  rw [← HW0.out, ← HXB.out]
  clear x0
  refine HC.out.mono ?_
  rintro e w1 ⟨rfl, hk1⟩
  have HK1 := Lib.hid hk1
  have x0 := (XB0.out.keep hk1).cell 0 rfl
  clear hk1
  by_cases he : er = 0
  · subst he
    have HOK : Hid (chk fs = 0) := Lib.hid HER.out.symm
    have HD0 : Hid (R = if hasP fs p = false then ([], false) else (bytesAt fs p, true)) := Lib.hid (by rw [HRR.out]; unfold findF; rw [if_neg (by rw [HOK.out]; simp)])
    have hPL := place_any (HR0.out.keep HK1.out) HP.out HOK.out
    obtain ⟨q, hq⟩ : ∃ q, q = pos fs p := ⟨_, rfl⟩
    obtain ⟨hs, hhs⟩ : ∃ hs, hs = hasP fs p := ⟨_, rfl⟩
    rw [← hq, ← hhs] at hPL
    rw [← hhs] at HD0
    have HPL := Lib.hid hPL
    have HQ := Lib.hid hq; have HHS := Lib.hid hhs
    have hn64 : n ≤ 64 := by rw [HN.out]; exact (chk_ok HOK.out).1
    have hni : (n : Int) ≤ 64 := by omega
    clear hPL hq hhs
    go_wp2_with fail
    refine HPL.out.mono ?_
    rintro e w2 ⟨rfl, hk2⟩
    have HK2 := Lib.hid (Kp.trans HK1.out hk2)
    have x0 := (XB0.out.keep HK2.out).cell 0 rfl
    clear hk2
    cases hs with
    | false =>
      obtain rfl : R = ([], false) := by rw [HD0.out]; simp
      go_wp2_with fail
      go_ret2
      exact ⟨rfl, Kp.trans HK0.out HK2.out⟩
    | true =>
      obtain ⟨f, hf⟩ : ∃ f, fs[q]? = some f := by
        have h := HHS.out
        unfold hasP at h
        rw [← HQ.out] at h
        cases hx : fs[q]? with
        | none => rw [hx] at h; cases h
        | some f => exact ⟨f, rfl⟩
      have hqn : q < n := by rw [HN.out]; exact (List.getElem?_eq_some_iff.1 hf).1
      obtain rfl : R = (f.2, true) := by
        rw [HD0.out]
        simp only [Bool.true_eq_false, if_false]
        unfold bytesAt
        rw [← HQ.out, hf]
        rfl
      obtain ⟨b, off, rfl, hc⟩ := (HR0.out.keep HK2.out).cell (by omega)
      obtain ⟨c0, c1⟩ := hc q f hf
      have hqi : (q : Int) < (n : Int) := by omega
      have hfl := (chkL_mem (chk_ok HOK.out).2 f (List.mem_of_getElem? hf)).2
      have HCL := Lib.hid (Clone_st f.2 (by omega) w2)
      clear hf hc hfl hqn
      go_wp2_with fail
      refine HCL.out.mono ?_
      rintro e w3 ⟨rfl, hk3⟩
      have HK3 := Lib.hid (Kp.trans HK0.out (Kp.trans HK2.out hk3))
      clear hk3
      go_wp2_with fail
      go_ret2
      exact ⟨rfl, HK3.out⟩
  · have hx1 : ((er : Int) == 0) = false := beq_eq_false_iff_ne.2 (by omega)
    have hx2 : ((er : Int) != 0) = true := by rw [bne_iff_ne]; omega
    obtain rfl : R = ([], false) := by rw [HRR.out]; unfold findF; rw [if_pos (by rw [← HER.out]; exact he)]
    clear he
    go_wp2_with fail
    go_ret2
    exact ⟨rfl, Kp.trans HK0.out HK1.out⟩
set_option maxRecDepth 100000 in
set_option maxHeartbeats 2000000 in
theorem EqualF_any {ua ub : Value} {fs gs : List Fl} {w : World} (ha : Rw w ua fs) (hb : Rw w ub gs) :
    Calls Tryz.prog 36 #[ua, ub] w fun e w' => e = .returned (.bool (decide (fs = gs))) ∧ Kp w w' := by
  obtain ⟨aa, ca, rfl, hca, hmx, -⟩ := ha.open3
  obtain ⟨ab, cb, rfl, hcb, -, -⟩ := hb.open3
  obtain ⟨n, hn⟩ : ∃ n, n = fs.length := ⟨_, rfl⟩
  obtain ⟨m, hm⟩ : ∃ m, m = gs.length := ⟨_, rfl⟩
  rw [← hn] at ha hca ⊢
  rw [← hm] at hb hcb ⊢
  have HA := Lib.hid ha; have HB := Lib.hid hb; have HN := Lib.hid hn; have HM := Lib.hid hm
  have hcai : (n : Int) ≤ (ca : Int) := by omega
  have hnb : (n : Int) ≤ 9223372036854775807 := by unfold maxLen at hmx; omega
  clear hmx
  have hcbi : (m : Int) ≤ (cb : Int) := by omega
  obtain ⟨D, hD⟩ : ∃ D, D = decide (fs = gs) := ⟨_, rfl⟩
  rw [← hD]
  have HD := Lib.hid hD
  clear ha hb hca hcb hn hm hD
  by_cases hnm : n = m
  · have q1 : ((n : Int) == (m : Int)) = true := by rw [beq_iff_eq]; omega
    have q2 : ((n : Int) != (m : Int)) = false := by rw [bne_eq_false_iff_eq]; omega
    have HNM := Lib.hid hnm
    clear hnm
    go_enter Tryz.func36, Tryz.ntmps36
    go_wp2_with fail
    go_loopw [13] (fun i wr => ∃ k : Nat, i = .int .i64 k ∧ k ≤ n ∧ fs.take k = gs.take k ∧ Kp w wr) (fun i _ => n - (intOf i).toNat)
    case atStart => exact ⟨0, rfl, Nat.zero_le _, by simp, Kp.refl _⟩
    case round =>
      obtain ⟨k, rfl, hk, htk, hkp⟩ := hrel
      rename World => wx
      have HT := Lib.hid htk; have HKP := Lib.hid hkp
      clear htk hkp
      by_cases hkn : k < n
      · obtain ⟨f, hf⟩ : ∃ f, fs[k]? = some f := ⟨_, List.getElem?_eq_getElem (by have := HN.out; omega)⟩
        obtain ⟨g, hg⟩ : ∃ g, gs[k]? = some g := ⟨_, List.getElem?_eq_getElem (by have := HM.out; have := HNM.out; omega)⟩
        obtain ⟨p, o, rfl, hc⟩ := (HA.out.keep HKP.out).cell (by omega)
        obtain ⟨p', o', rfl, hc'⟩ := (HB.out.keep HKP.out).cell (by have := HNM.out; omega)
        obtain ⟨c0, c1⟩ := hc k f hf
        obtain ⟨d0, d1⟩ := hc' k g hg
        have hlf := HA.out.lt f (List.mem_of_getElem? hf)
        have hlg := HB.out.lt g (List.mem_of_getElem? hg)
        have hq1 := st_inj' hlf.1 hlg.1
        have hq2 := st_inj' hlf.2 hlg.2
        have hkm : (k : Int) < (m : Int) := by have := HNM.out; omega
        obtain ⟨x, hx⟩ : ∃ x, x = decide (f.1 = g.1) := ⟨_, rfl⟩
        obtain ⟨y, hy⟩ : ∃ y, y = decide (f.2 = g.2) := ⟨_, rfl⟩
        have HNE : Hid ((x = false ∨ y = false) → D = false) := Lib.hid (by
          intro h
          rw [HD.out]
          apply decide_eq_false
          intro e
          rw [e, hg] at hf
          injection hf with hf
          subst hf
          rcases h with h | h
          · rw [hx] at h; simp at h
          · rw [hy] at h; simp at h)
        have HEQ : Hid (x = true → y = true → fs.take (k + 1) = gs.take (k + 1)) := Lib.hid (by
          intro h1 h2
          rw [hx] at h1
          rw [hy] at h2
          rw [List.take_add_one, List.take_add_one, hf, hg, HT.out]
          have e1 := of_decide_eq_true h1
          have e2 := of_decide_eq_true h2
          rw [Prod.ext e1 e2])
        rw [← hx] at hq1
        rw [← hy] at hq2
        obtain ⟨S1, hS1⟩ : ∃ S, S = st f.1 := ⟨_, rfl⟩
        obtain ⟨S2, hS2⟩ : ∃ S, S = st f.2 := ⟨_, rfl⟩
        obtain ⟨T1, hT1⟩ : ∃ S, S = st g.1 := ⟨_, rfl⟩
        obtain ⟨T2, hT2⟩ : ∃ S, S = st g.2 := ⟨_, rfl⟩
        rw [← hS1] at c0 hq1
        rw [← hS2] at c1 hq2
        rw [← hT1] at d0 hq1
        rw [← hT2] at d1 hq2
        clear hc hc' hf hg hlf hlg hx hy hS1 hS2 hT1 hT2
        cases x with
        | false =>
          have hD0 := HNE.out (.inl rfl)
          subst hD0
          go_wp2_with fail
          go_quiet (fail)
          go_wp2_with fail
          go_ret
          exact ⟨rfl, Kp.trans HKP.out (Kp.drewN _ _)⟩
        | true =>
          cases y with
          | false =>
            have hD0 := HNE.out (.inr rfl)
            subst hD0
            go_wp2_with fail
            go_quiet (fail)
            go_wp2_with fail
            go_ret
            exact ⟨rfl, Kp.trans HKP.out (Kp.drewN _ _)⟩
          | true =>
            have HT2 := Lib.hid (HEQ.out rfl rfl)
            clear HEQ HNE
            go_wp2_with fail
            go_quiet (fail)
            go_wp2_with fail
            go_roundw
            case rel => exact ⟨k + 1, by go_num, by omega, HT2.out, Kp.trans HKP.out (Kp.drewN _ _)⟩
            case measure => simp [intOf]; omega
      · have hD0 : D = true := by
          rw [HD.out]
          apply decide_eq_true
          have h1 := HT.out
          rw [List.take_of_length_le (by have := HN.out; omega), List.take_of_length_le (by have := HM.out; have := HNM.out; omega)] at h1
          exact h1
        subst hD0
        go_wp2_with fail
        go_ret
        exact ⟨rfl, HKP.out⟩
  · have q1 : ((n : Int) == (m : Int)) = false := beq_eq_false_iff_ne.2 (by omega)
    have q2 : ((n : Int) != (m : Int)) = true := by rw [bne_iff_ne]; omega
    have hD0 : D = false := by
      rw [HD.out]
      apply decide_eq_false
      intro e
      have h1 := HN.out; have h2 := HM.out
      rw [e] at h1
      omega
    subst hD0
    clear hnm
    go_enter Tryz.func36, Tryz.ntmps36
    go_wp2_with fail
    go_ret
    exact ⟨rfl, Kp.refl _⟩
set_option maxRecDepth 100000 in
set_option maxHeartbeats 1000000 in
theorem Same_pany {ua ub : Value} {fs gs : List Fl} {w : World} (ha : Rw w ua fs) (hb : Rw w ub gs) :
    Calls Tryz.prog 10 #[.agg #[ua], .agg #[ub]] w fun e w' => e = .returned (.bool (decide (fs = gs))) ∧ Kp w w' := by
  obtain ⟨aa, ca, rfl, hca, -, -⟩ := ha.open3
  obtain ⟨ab, cb, rfl, hcb, -, -⟩ := hb.open3
  obtain ⟨n, hn⟩ : ∃ n, n = fs.length := ⟨_, rfl⟩
  obtain ⟨m, hm⟩ : ∃ m, m = gs.length := ⟨_, rfl⟩
  rw [← hn] at ha ⊢
  rw [← hm] at hb ⊢
  have HKX : Hid (Kp w ((w.alloc (.cells #[.slice aa n ca] 28)).alloc (.cells #[.slice ab m cb] 28))) := Lib.hid (Kp.trans (kp_alloc w _) (kp_alloc _ _))
  have HC := Lib.hid (EqualF_any (ha.keep HKX.out) (hb.keep HKX.out))
  clear ha hb hn hm hca hcb
  go_enter Tryz.func10, Tryz.ntmps10
  go_wp2_with fail
  refine HC.out.mono ?_
  rintro e w1 ⟨rfl, hk⟩
  have HK := Lib.hid (Kp.trans HKX.out hk)
  clear hk
  go_wp2_with fail
  go_ret
  exact ⟨rfl, HK.out⟩
theorem suffix_st {l : List Nat} (hl : Lt l) : Lib.hasSuffix (st l).data.toList (st [46, 115, 114, 99]).data.toList = (decide (4 ≤ l.length) && decide (l.drop (l.length - 4) = [46, 115, 114, 99])) := by
  have e1 : (st l).data.toList = l.map fun n => UInt8.ofNat n := by simp [st]
  have e2 : (st [46, 115, 114, 99]).data.toList = [46, 115, 114, 99] := by rfl
  unfold Lib.hasSuffix
  rw [e1, e2, Bool.eq_iff_iff, List.isSuffixOf_iff_suffix, Bool.and_eq_true, decide_eq_true_eq, decide_eq_true_eq, List.suffix_iff_eq_drop]
  simp only [List.length_map, List.length_cons, List.length_nil]
  have hm : ∀ x ∈ l.drop (l.length - 4), x < 256 := fun x hx => hl.mem (List.mem_of_mem_drop hx)
  constructor
  · intro h
    have h1 : 4 ≤ l.length := by
      have := congrArg List.length h
      simp at this
      omega
    refine ⟨h1, ?_⟩
    rw [← List.map_drop] at h
    have h2 := congrArg (List.map UInt8.toNat) h
    rw [List.map_map] at h2
    have h3 : (l.drop (l.length - 4)).map (UInt8.toNat ∘ fun n => UInt8.ofNat n) = l.drop (l.length - 4) := by
      refine (List.map_congr_left fun x hx => ?_).trans (List.map_id _)
      have := hm x hx
      simp; omega
    rw [h3] at h2
    rw [← h2]
    rfl
  · rintro ⟨h1, h2⟩
    rw [← List.map_drop, h2]
    rfl
theorem st_src : (⟨#[46, 115, 114, 99]⟩ : ByteArray) = st [46, 115, 114, 99] := rfl
set_option maxRecDepth 100000 in
set_option maxHeartbeats 1000000 in
theorem IsSource_any {p : List Nat} {w : World} (hp : Lt p) (hpl : p.length ≤ maxLen) (hm : MX w) :
    Calls Tryz.prog 15 #[.string (st p)] w fun e w' => e = .returned (.bool (srcB p)) ∧ Kp w w' := by
  have HPC := Lib.hid (PathA hp hm)
  have hsx := fun W => Tryz.strings_HasSuffix (st p) ⟨#[46, 115, 114, 99]⟩ W (by rw [st_size]; exact hpl)
  have hsf := suffix_st hp
  rw [← st_src] at hsf
  obtain ⟨sx, hsxx⟩ : ∃ x, x = (decide (4 ≤ p.length) && decide (p.drop (p.length - 4) = [46, 115, 114, 99])) := ⟨_, rfl⟩
  rw [← hsxx] at hsf
  rw [hsf] at hsx
  have HSX := Lib.hid hsx
  have hq := st_inj' hp (ys := [46, 115, 114, 99]) (lt_dec (by decide +kernel))
  rw [← st_src] at hq
  have ec : (⟨#[46, 115, 114, 99]⟩ : ByteArray).toList = [46, 115, 114, 99] := by rw [ByteArray.toList_eq]
  rw [ec] at hq
  obtain ⟨d, hd⟩ : ∃ d, d = decide (p = [46, 115, 114, 99]) := ⟨_, rfl⟩
  rw [← hd] at hq
  have hsrc : srcB p = (pathB p && (sx && !d)) := by
    unfold srcB
    rw [hsxx, hd]
    by_cases h : p = [46, 115, 114, 99]
    · subst h
      decide
    · rw [decide_eq_false h]
      by_cases h4 : p.drop (p.length - 4) = [46, 115, 114, 99]
      · rw [decide_eq_true h4]
        by_cases h5 : 4 ≤ p.length
        · have h6 : p.length ≠ 4 := by
            intro e
            rw [e] at h4
            exact h (by simpa using h4)
          rw [decide_eq_true h5, decide_eq_true (show 4 < p.length by omega)]
          simp
        · rw [decide_eq_false h5, decide_eq_false (show ¬ 4 < p.length by omega)]
          simp
      · rw [decide_eq_false h4]
        simp
  obtain ⟨pb, hpb⟩ : ∃ b, b = pathB p := ⟨_, rfl⟩
  rw [← hpb] at hsrc HPC
  rw [hsrc]
  obtain ⟨P, hP⟩ : ∃ P, P = st p := ⟨_, rfl⟩
  rw [← hP] at HPC HSX hq ⊢
  clear hp hpl hm hsx hsf hsxx hd hsrc hpb hP ec
  cases pb with
  | false =>
    go_enter Tryz.func15, Tryz.ntmps15
    go_wp2_with fail
    refine HPC.out.mono ?_
    rintro e w1 ⟨rfl, hk⟩
    have HK := Lib.hid hk
    clear hk
    go_wp2_with fail
    go_ret
    exact ⟨rfl, HK.out⟩
  | true =>
    cases sx with
    | false =>
      go_enter Tryz.func15, Tryz.ntmps15
      go_wp2_with fail
      refine HPC.out.mono ?_
      rintro e w1 ⟨rfl, hk⟩
      have HK := Lib.hid hk
      clear hk
      go_wp2_with fail
      refine (HSX.out _).mono ?_
      rintro e w2 ⟨rfl, rfl⟩
      go_wp2_with fail
      go_ret
      exact ⟨rfl, HK.out⟩
    | true =>
      cases d with
      | false =>
        go_enter Tryz.func15, Tryz.ntmps15
        go_wp2_with fail
        refine HPC.out.mono ?_
        rintro e w1 ⟨rfl, hk⟩
        have HK := Lib.hid hk
        clear hk
        go_wp2_with fail
        refine (HSX.out _).mono ?_
        rintro e w2 ⟨rfl, rfl⟩
        go_wp2_with fail
        go_ret
        exact ⟨rfl, HK.out⟩
      | true =>
        go_enter Tryz.func15, Tryz.ntmps15
        go_wp2_with fail
        refine HPC.out.mono ?_
        rintro e w1 ⟨rfl, hk⟩
        have HK := Lib.hid hk
        clear hk
        go_wp2_with fail
        refine (HSX.out _).mono ?_
        rintro e w2 ⟨rfl, rfl⟩
        go_wp2_with fail
        go_ret
        exact ⟨rfl, HK.out⟩
end By
end Go.Proofs.YtmkijkaabcgcbaaGreatDoor

/- The program's Move. Conditions: the slice reads as the files that are named; a package variable of the library holds some integer. -/
namespace Go.Proofs.YtmkijkaabcgcbaaGreatDoor
namespace By
open Go.RowKit Go.Shelf WireN LexN RevN
set_option linter.unusedVariables false
set_option linter.unusedSimpArgs false

theorem hasP_some {fs : List Fl} {p : List Nat} (h : hasP fs p = true) : ∃ f, fs[pos fs p]? = some f ∧ f.1 = p := by
  unfold hasP at h
  cases hx : fs[pos fs p]? with
  | none => rw [hx] at h; cases h
  | some f => rw [hx] at h; exact ⟨f, rfl, of_decide_eq_true h⟩
theorem cell_only {w w' : World} {g b i : Nat} {v : Value} (ho : Only g w w') (hc : w.cell? ⟨b, i, none⟩ = some v) (hne : b ≠ g) : w'.cell? ⟨b, i, none⟩ = some v := by
  have hh := ho.block b hne
  unfold World.cell? at hc ⊢
  rw [hh]
  exact hc
set_option maxRecDepth 100000 in
set_option maxHeartbeats 4000000 in
theorem Move_any {u : Value} {fs : List Fl} {p p2 : List Nat} {w : World} (hr : Rw w u fs) (hp : Lt p) (hp2 : Lt p2) (hm : MX w) :
    Calls Tryz.prog 21 #[.agg #[u], .string (st p), .string (st p2)] w (RevR w (movF fs p p2)) := by
  obtain ⟨ao, cap, rfl, hcap, hmx, hno⟩ := hr.open3
  obtain ⟨n, hn⟩ : ∃ n, n = fs.length := ⟨_, rfl⟩
  rw [← hn] at hr hcap ⊢
  obtain ⟨Q, hQ⟩ : ∃ Q, Q = RevR w (movF fs p p2) := ⟨_, rfl⟩
  rw [← hQ]
  obtain ⟨xb, hxb⟩ : ∃ xb, xb = w.heap.size := ⟨_, rfl⟩
  obtain ⟨rb, hrb⟩ : ∃ rb, rb = w.heap.size + 1 := ⟨_, rfl⟩
  obtain ⟨Wa, hWa⟩ : ∃ W, W = w.alloc (.cells #[.slice ao n cap] 28) := ⟨_, rfl⟩
  obtain ⟨W0, hW0⟩ : ∃ W, W = Wa.alloc (.cells #[.slice none 0 0] 28) := ⟨_, rfl⟩
  have hz : Wa.heap.size = w.heap.size + 1 := by rw [hWa]; simp
  have k1 : Kp w Wa := by rw [hWa]; exact kp_alloc w _
  have k2 : Kp Wa W0 := by rw [hW0]; exact kp_alloc Wa _
  have HK0 : Hid (Kp w W0) := Lib.hid (Kp.trans k1 k2)
  have XB0 : Hid (Blk W0 xb 28 #[.slice ao n cap]) := Lib.hid (by
    have : Blk Wa w.heap.size 28 #[.slice ao n cap] := by rw [hWa]; exact Blk.new _ _ _
    rw [hxb]
    exact this.keep k2)
  have RB0 : Hid (Blk W0 rb 28 #[.slice none 0 0]) := Lib.hid (by rw [hW0, hrb, ← hz]; exact Blk.new _ _ _)
  have HW0 : Hid (W0 = (w.alloc (.cells #[.slice ao n cap] 28)).alloc (.cells #[.slice none 0 0] 28)) := Lib.hid (by rw [hW0, hWa])
  have HXB := Lib.hid hxb; have HRB := Lib.hid hrb
  have GR : Hid (w.heap.size ≤ rb) := Lib.hid (by omega)
  have HR0 := Lib.hid (hr.keep HK0.out)
  have HRW := Lib.hid hr
  have HM0 := Lib.hid (hm.keep HK0.out)
  have HC := Lib.hid (Check_any HR0.out HM0.out)
  have FIN : Hid (∀ (a : Act) (W X : World) (v : Value) (er : Nat) (gs : List Fl), a.defers = [] → a.tmps.getD 6 undef = .pointer (some ⟨rb, 0, none⟩) → a.tmps.getD 7 undef = .int .i64 (er : Nat) → Kp W0 X → W = X.setCell ⟨rb, 0, none⟩ v →
      movF fs p p2 = (er, gs) → (∀ W', Only rb X W' → Rw W' v gs) → (∀ b, v.ownBlock = some b → w.heap.size ≤ b) → bodyPost Tryz.prog Tryz.f21 Q .ret a W) := Lib.hid (by
    intro a W X v er gs h0 h2 h3 hk hW hd hv hnw
    have oW : Only rb X W := by rw [hW]; exact (Only.refl rb X).set 0 _
    have hbW : Blk W rb 28 #[v] := by rw [hW]; exact (RB0.out.keep hk).set 0 _
    have e0 := hbW.cell 0 rfl
    have h2' : a.tmps[6]?.getD undef = .pointer (some ⟨rb, 0, none⟩) := by simpa using h2
    have h3' : a.tmps[7]?.getD undef = .int .i64 (er : Nat) := by simpa using h3
    refine bodyPost_ret (v := .tuple #[.agg #[v], .int .i64 (er : Nat)]) (by simp [results, Tryz.results21, go_sem, h2', h3', e0]) h0 ?_
    rw [hQ]
    exact ⟨v, by rw [hd], by rw [hd]; exact hv W oW, hnw, Only.kp (Kp.trans HK0.out hk) oW GR.out⟩)
  have NIL : Hid (∀ (X W' : World), Only rb X W' → Rw W' (.slice none 0 0) []) := Lib.hid (fun _ W' _ => Rw.nil W')
  have HN := Lib.hid hn; have HP := Lib.hid hp; have HP2 := Lib.hid hp2
  have hcp : (n : Int) ≤ (cap : Int) := by omega
  have HCP : Hid (n ≤ cap) := Lib.hid hcap
  have x0 := XB0.out.cell 0 rfl
  rw [hW0, hWa] at x0
  obtain ⟨er, her⟩ : ∃ er, er = chk fs := ⟨_, rfl⟩
  rw [← her] at HC
  have HER := Lib.hid her
  clear hr hp hp2 hm hn hcap hmx hno hQ hxb hrb hWa hW0 hz k1 k2 her
  go_enter Tryz.func21, Tryz.ntmps21
  go_wp2_with fail
  rw [← HW0.out, ← HRB.out, ← HXB.out]
  clear x0
  refine HC.out.mono ?_
  rintro e w1 ⟨rfl, hk1⟩
  have HK1 := Lib.hid hk1
  have xb1 := XB0.out.keep hk1
  have x0 := xb1.cell 0 rfl
  have rb1 := RB0.out.keep hk1
  have r0 := rb1.cell 0 rfl; have f0 := rb1.free 0
  clear hk1 xb1 rb1
  by_cases he : er = 0
  · subst he
    have HOK : Hid (chk fs = 0) := Lib.hid HER.out.symm
    have HPC := Lib.hid (PathA HP2.out (HM0.out.keep HK1.out))
    have HD0 : Hid (movF fs p p2 = if pathB p2 = false then (6, []) else if hasP fs p = false then (18, []) else if hasP fs p2 = true then (19, []) else putF (remL fs p) p2 (bytesAt fs p)) := Lib.hid (by unfold movF; rw [if_neg (by rw [HOK.out]; simp)])
    obtain ⟨pbl, hpbl⟩ : ∃ x, x = pathB p2 := ⟨_, rfl⟩
    rw [← hpbl] at HPC HD0
    clear hpbl
    go_wp2_with fail
    refine HPC.out.mono ?_
    rintro e w2 ⟨rfl, hk2⟩
    have HK2 := Lib.hid (Kp.trans HK1.out hk2)
    have xb2 := XB0.out.keep HK2.out
    have rb2 := RB0.out.keep HK2.out
    have x0 := xb2.cell 0 rfl
    have r0 := rb2.cell 0 rfl; have f0 := rb2.free 0
    clear hk2 xb2 rb2
    cases pbl with
    | false =>
      have HD : Hid (movF fs p p2 = (6, [])) := Lib.hid (by rw [HD0.out]; simp)
      go_wp2_with fail
      exact FIN.out _ _ w2 _ 6 [] rfl rfl rfl HK2.out rfl HD.out (NIL.out w2) (fun b hb => by simp [Value.ownBlock] at hb)
    | true =>
      have HPL := Lib.hid (place_any (HR0.out.keep HK2.out) HP.out HOK.out)
      have HPL2 := Lib.hid (fun (W : World) (hk : Kp W0 W) => place_any (HR0.out.keep hk) HP2.out HOK.out)
      obtain ⟨q, hq⟩ : ∃ q, q = pos fs p := ⟨_, rfl⟩
      obtain ⟨hs, hhs⟩ : ∃ hs, hs = hasP fs p := ⟨_, rfl⟩
      obtain ⟨q2, hq2⟩ : ∃ q, q = pos fs p2 := ⟨_, rfl⟩
      obtain ⟨hs2, hhs2⟩ : ∃ hs, hs = hasP fs p2 := ⟨_, rfl⟩
      rw [← hq, ← hhs] at HPL
      rw [← hq2, ← hhs2] at HPL2
      have HD1 : Hid (movF fs p p2 = if hs = false then (18, []) else if hs2 = true then (19, []) else putF (remL fs p) p2 (bytesAt fs p)) := Lib.hid (by rw [HD0.out, hhs, hhs2]; simp)
      have HHS := Lib.hid hhs; have HQQ := Lib.hid hq
      have hni : (n : Int) ≤ 64 := by have := (chk_ok HOK.out).1; have := HN.out; omega
      clear hq hhs hq2 hhs2
      go_wp2_with fail
      refine HPL.out.mono ?_
      rintro e w3 ⟨rfl, hk3⟩
      have HK3 := Lib.hid (Kp.trans HK2.out hk3)
      have xb3 := XB0.out.keep HK3.out
      have rb3 := RB0.out.keep HK3.out
      have x0 := xb3.cell 0 rfl
      have r0 := rb3.cell 0 rfl; have f0 := rb3.free 0
      clear hk3 xb3 rb3
      cases hs with
      | false =>
        have HD : Hid (movF fs p p2 = (18, [])) := Lib.hid (by rw [HD1.out]; simp)
        go_wp2_with fail
        exact FIN.out _ _ w3 _ 18 [] rfl rfl rfl HK3.out rfl HD.out (NIL.out w3) (fun b hb => by simp [Value.ownBlock] at hb)
      | true =>
        go_wp2_with fail
        refine (HPL2.out w3 HK3.out).mono ?_
        rintro e w4 ⟨rfl, hk4⟩
        have HK4 := Lib.hid (Kp.trans HK3.out hk4)
        have XB4 := Lib.hid (XB0.out.keep HK4.out)
        have RB4 := Lib.hid (RB0.out.keep HK4.out)
        have x0 := XB4.out.cell 0 rfl
        have r0 := RB4.out.cell 0 rfl; have f0 := RB4.out.free 0
        clear hk4
        cases hs2 with
        | true =>
          have HD : Hid (movF fs p p2 = (19, [])) := Lib.hid (by rw [HD1.out]; simp)
          go_wp2_with fail
          exact FIN.out _ _ w4 _ 19 [] rfl rfl rfl HK4.out rfl HD.out (NIL.out w4) (fun b hb => by simp [Value.ownBlock] at hb)
        | false =>
          have HD : Hid (movF fs p p2 = putF (remL fs p) p2 (bytesAt fs p)) := Lib.hid (by rw [HD1.out]; simp)
          obtain ⟨f, hf, hfp⟩ := hasP_some HHS.out.symm
          rw [← HQQ.out] at hf
          have hqn : q < n := by rw [HN.out]; exact (List.getElem?_eq_some_iff.1 hf).1
          have hby : bytesAt fs p = f.2 := by unfold bytesAt; rw [← HQQ.out, hf]; rfl
          obtain ⟨b, off, hao, hc⟩ := HRW.out.cell (by omega)
          have hbw : b < w.heap.size := World.block_lt_of_cell? w _ (hc q f hf).1
          obtain ⟨b', off', hao', hc'⟩ := (HR0.out.keep HK4.out).cell (by omega)
          rw [hao] at hao'
          injection hao' with hao'
          injection hao' with e1 e2
          subst e1 e2
          obtain ⟨-, c1⟩ := hc' q f hf
          subst hao
          have hqi : (q : Int) < (n : Int) := by omega
          have hwr : IntKind.i64.wrap ((q : Int) + 1) = (q : Int) + 1 := by rw [IntKind.wrap_i64]; omega
          have hq1 : (q : Int) + 1 ≤ (n : Int) := by omega
          have hmemf := chkL_mem (chk_ok HOK.out).2 f (List.mem_of_getElem? hf)
          have hltf := HRW.out.lt f (List.mem_of_getElem? hf)
          have hto : ∀ w, (Instr.slice 26 (.slice (some ⟨b, off, none⟩) n cap) none (some (.int .i64 (q : Nat))) none).run Tryz.prog w = .ok (sliced (some ⟨b, off, none⟩) 0 q cap 2) w := fun w => fl_to _ _ _ q _ rfl (by have := HCP.out; omega) w
          have hfr : ∀ w, (Instr.slice 26 (.slice (some ⟨b, off, none⟩) n cap) (some (.int .i64 ((q : Int) + 1))) none none).run Tryz.prog w = .ok (sliced (some ⟨b, off, none⟩) (q + 1) n cap 2) w := fun w => fl_from _ _ _ (q + 1) _ (by omega) (by omega) w
          have h1 := (HR0.out.keep HK4.out).cut (q + 1) n (by omega) (Nat.le_refl _)
          rw [drop_take_len HN.out] at h1
          have h2 := (HR0.out.keep HK4.out).cut 0 q (Nat.zero_le _) (by omega)
          rw [List.drop_zero] at h2
          obtain ⟨la, lc, hL, -, -, -⟩ := h2.open3
          obtain ⟨ll, hll⟩ : ∃ l, l = (fs.take q).length := ⟨_, rfl⟩
          rw [← hll] at hL
          rw [hL] at hto h2
          obtain ⟨sa, sc, hS, -, -, -⟩ := h1.open3
          obtain ⟨sl, hsl⟩ : ∃ l, l = (fs.drop (q + 1)).length := ⟨_, rfl⟩
          rw [← hsl] at hS
          rw [hS] at hfr h1
          have hrem : [fs.take q, fs.drop (q + 1)].flatten = remL fs p := by unfold remL; rw [← HQQ.out]; simp
          have HJ : Hid (∀ X, Kp w4 X → Calls Tryz.prog 41 #[.slice (some ⟨X.heap.size, 0, none⟩) 2 2] (X.alloc (.cells #[.slice la ll lc, .slice sa sl sc] 26)) fun e w' => ∃ v, e = .returned (.agg #[v]) ∧ Rw w' v (remL fs p) ∧ Kp X w') := Lib.hid (fun X hk => by
            have hj := joinF_any (n := 2) (cap := 2) (LisF.two (e := 26) (h2.keep hk) (h1.keep hk)) rfl (by omega) (by
              rw [hrem]
              unfold remL
              rw [List.length_append, List.length_take, List.length_drop]
              have := (chk_ok HOK.out).1
              omega) (by
              intro f hf
              rw [hrem] at hf
              have hmem : f ∈ fs := by
                rcases List.mem_append.1 hf with hf | hf
                · exact List.mem_of_mem_take hf
                · exact List.mem_of_mem_drop hf
              have h5 := chkL_mem (chk_ok HOK.out).2 f hmem
              have h6 := path_len h5.1
              exact ⟨by omega, by omega⟩)
            rw [hrem] at hj
            exact hj.mono (by
              rintro e w' ⟨v, h1, h2, -, h4⟩
              exact ⟨v, h1, h2, Kp.trans (kp_alloc X _) h4⟩))
          have HPU : Hid (∀ W v, Rw W v (remL fs p) → Kp w4 W → Calls Tryz.prog 17 #[.agg #[v], .string (st p2), .string (st f.2)] W (RevR W (movF fs p p2))) := Lib.hid (fun W v hv hk => by
            rw [HD.out, hby]
            exact Put_any hv HP2.out hltf.2 (HM0.out.keep (Kp.trans HK4.out hk)))
          have HNB : Hid (b ≠ rb) := Lib.hid (by have := GR.out; omega)
          have HNX : Hid (xb ≠ rb) := Lib.hid (by have := HXB.out; have := HRB.out; omega)
          obtain ⟨S, hSS⟩ : ∃ S, S = st f.2 := ⟨_, rfl⟩
          obtain ⟨P2, hPP⟩ : ∃ S, S = st p2 := ⟨_, rfl⟩
          rw [← hSS] at c1 HPU
          rw [← hPP] at HPU ⊢
          obtain ⟨Y, hY⟩ : ∃ Y, Y = movF fs p p2 := ⟨_, rfl⟩
          rw [← hY] at HPU
          have HYY := Lib.hid hY
          have HC1 := Lib.hid c1
          have STO : Hid (∀ X v, Kp w4 X → (X.setCell ⟨rb, 0, none⟩ v).cell? ⟨xb, 0, none⟩ = some (.slice (some ⟨b, off, none⟩) n cap) ∧ (X.setCell ⟨rb, 0, none⟩ v).cell? ⟨b, off + q * 2 + 1, none⟩ = some (.string S)) := Lib.hid (fun X v hk =>
            ⟨cell_only ((Only.refl rb X).set 0 v) ((XB4.out.keep hk).cell 0 rfl) HNX.out, cell_only ((Only.refl rb X).set 0 v) (cell_kept HC1.out hk) HNB.out⟩)
          clear hf hfp hqn hby hbw hc hc' hmemf hltf h1 h2 hL hll hS hsl hrem hSS hPP hY
          go_wp2_with fail
          go_region_held3 (fun w' => w'.cell? ⟨xb, 0, none⟩ = some (.slice (some ⟨b, off, none⟩) n cap) ∧ w'.cell? ⟨b, off + q * 2 + 1, none⟩ = some (.string S))
            (first
              | exact ⟨x0, c1⟩
              | exact ⟨cell_kept x0 hk6, cell_kept c1 hk6⟩
              | exact STO.out _ _ hk6
              | exact ⟨cell_kept x0 hk5, cell_kept c1 hk5⟩
              | exact ⟨cell_kept x0 (Kp.trans (kp_drew _) (kp_alloc _ _)), cell_kept c1 (Kp.trans (kp_drew _) (kp_alloc _ _))⟩
              | fail "no keep")
            (first
              | (go_at_call 17; refine (HPU.out _ _ hrv5 hk5).mono ?_; rintro e w6 ⟨v6, rfl, hrv6, hnw6, hk6'⟩; have hk6 := Kp.trans hk5 hk6'; obtain ⟨a6, c6, hv6, -, -, -⟩ := hrv6.open3; subst hv6; have r6 := (RB4.out.keep hk6).cell 0 rfl; have f6 := (RB4.out.keep hk6).free 0)
              | (go_at_call 41; refine (HJ.out _ (kp_drew _)).mono ?_; rintro e w5 ⟨v5, rfl, hrv5, hk5'⟩; have hk5 := Kp.trans (kp_drew w4) hk5')
              | fail "no arm")
          all_goals
            have HRV := Lib.hid hrv6
            have HK6 := Lib.hid hk6
            have HNW : Hid (∀ b, (Value.slice a6 Y.2.length c6).ownBlock = some b → w.heap.size ≤ b) := Lib.hid (fun b hb => by have h3 := hnw6 b hb; have h4 := (Kp.trans HK0.out (Kp.trans HK4.out hk5)).size; omega)
            have HNE : Hid (∀ b, (Value.slice a6 Y.2.length c6).ownBlock = some b → b ≠ rb) := Lib.hid (fun b hb e => by have h3 := hnw6 b hb; have h4 := hk5.size; have h5 := RB4.out.lt; omega)
            clear hrv6 hk6 hk6' hk5 hk5' hnw6 hrv5 r6 f6
            go_wp2_with fail
            exact FIN.out _ _ w6 _ Y.1 Y.2 rfl rfl rfl (Kp.trans HK4.out HK6.out) rfl (by rw [← HYY.out]) (fun W' ho => HRV.out.only ho HNE.out) HNW.out
  · have hx1 : ((er : Int) == 0) = false := beq_eq_false_iff_ne.2 (by omega)
    have hx2 : ((er : Int) != 0) = true := by rw [bne_iff_ne]; omega
    have HD : Hid (movF fs p p2 = (er, [])) := Lib.hid (by unfold movF; rw [if_pos (by rw [← HER.out]; exact he), ← HER.out])
    clear he
    go_wp2_with fail
    exact FIN.out _ _ w1 _ er [] rfl rfl rfl HK1.out rfl HD.out (NIL.out w1) (fun b hb => by simp [Value.ownBlock] at hb)
end By
end Go.Proofs.YtmkijkaabcgcbaaGreatDoor

/- The program's Remove. Conditions: the slice reads as the files that are named; a package variable of the library holds some integer. -/
namespace Go.Proofs.YtmkijkaabcgcbaaGreatDoor
namespace By
open Go.RowKit Go.Shelf WireN LexN RevN
set_option linter.unusedVariables false
set_option linter.unusedSimpArgs false

set_option maxRecDepth 100000 in
set_option maxHeartbeats 4000000 in
theorem Remove_any {u : Value} {fs : List Fl} {p : List Nat} {w : World} (hr : Rw w u fs) (hp : Lt p) (hm : MX w) :
    Calls Tryz.prog 19 #[.agg #[u], .string (st p)] w (RevR w (remF fs p)) := by
  obtain ⟨ao, cap, rfl, hcap, hmx, hno⟩ := hr.open3
  obtain ⟨n, hn⟩ : ∃ n, n = fs.length := ⟨_, rfl⟩
  rw [← hn] at hr hcap ⊢
  obtain ⟨Q, hQ⟩ : ∃ Q, Q = RevR w (remF fs p) := ⟨_, rfl⟩
  rw [← hQ]
  obtain ⟨xb, hxb⟩ : ∃ xb, xb = w.heap.size := ⟨_, rfl⟩
  obtain ⟨rb, hrb⟩ : ∃ rb, rb = w.heap.size + 1 := ⟨_, rfl⟩
  obtain ⟨Wa, hWa⟩ : ∃ W, W = w.alloc (.cells #[.slice ao n cap] 28) := ⟨_, rfl⟩
  obtain ⟨W0, hW0⟩ : ∃ W, W = Wa.alloc (.cells #[.slice none 0 0] 28) := ⟨_, rfl⟩
  have hz : Wa.heap.size = w.heap.size + 1 := by rw [hWa]; simp
  have k1 : Kp w Wa := by rw [hWa]; exact kp_alloc w _
  have k2 : Kp Wa W0 := by rw [hW0]; exact kp_alloc Wa _
  have HK0 : Hid (Kp w W0) := Lib.hid (Kp.trans k1 k2)
  have XB0 : Hid (Blk W0 xb 28 #[.slice ao n cap]) := Lib.hid (by
    have : Blk Wa w.heap.size 28 #[.slice ao n cap] := by rw [hWa]; exact Blk.new _ _ _
    rw [hxb]
    exact this.keep k2)
  have RB0 : Hid (Blk W0 rb 28 #[.slice none 0 0]) := Lib.hid (by rw [hW0, hrb, ← hz]; exact Blk.new _ _ _)
  have HW0 : Hid (W0 = (w.alloc (.cells #[.slice ao n cap] 28)).alloc (.cells #[.slice none 0 0] 28)) := Lib.hid (by rw [hW0, hWa])
  have HXB := Lib.hid hxb; have HRB := Lib.hid hrb
  have GR : Hid (w.heap.size ≤ rb) := Lib.hid (by omega)
  have HR0 := Lib.hid (hr.keep HK0.out)
  have HRW := Lib.hid hr
  have HM0 := Lib.hid (hm.keep HK0.out)
  have HC := Lib.hid (Check_any HR0.out HM0.out)
  have FIN : Hid (∀ (a : Act) (W X : World) (v : Value) (er : Nat) (gs : List Fl), a.defers = [] → a.tmps.getD 4 undef = .pointer (some ⟨rb, 0, none⟩) → a.tmps.getD 5 undef = .int .i64 (er : Nat) → Kp W0 X → W = X.setCell ⟨rb, 0, none⟩ v →
      remF fs p = (er, gs) → (∀ W', Only rb X W' → Rw W' v gs) → (∀ b, v.ownBlock = some b → w.heap.size ≤ b) → bodyPost Tryz.prog Tryz.f19 Q .ret a W) := Lib.hid (by
    intro a W X v er gs h0 h2 h3 hk hW hd hv hnw
    have oW : Only rb X W := by rw [hW]; exact (Only.refl rb X).set 0 _
    have hbW : Blk W rb 28 #[v] := by rw [hW]; exact (RB0.out.keep hk).set 0 _
    have e0 := hbW.cell 0 rfl
    have h2' : a.tmps[4]?.getD undef = .pointer (some ⟨rb, 0, none⟩) := by simpa using h2
    have h3' : a.tmps[5]?.getD undef = .int .i64 (er : Nat) := by simpa using h3
    refine bodyPost_ret (v := .tuple #[.agg #[v], .int .i64 (er : Nat)]) (by simp [results, Tryz.results19, go_sem, h2', h3', e0]) h0 ?_
    rw [hQ]
    exact ⟨v, by rw [hd], by rw [hd]; exact hv W oW, hnw, Only.kp (Kp.trans HK0.out hk) oW GR.out⟩)
  have NIL : Hid (∀ (X W' : World), Only rb X W' → Rw W' (.slice none 0 0) []) := Lib.hid (fun _ W' _ => Rw.nil W')
  have HN := Lib.hid hn; have HP := Lib.hid hp
  have hcp : (n : Int) ≤ (cap : Int) := by omega
  have HCP : Hid (n ≤ cap) := Lib.hid hcap
  have x0 := XB0.out.cell 0 rfl
  rw [hW0, hWa] at x0
  obtain ⟨er, her⟩ : ∃ er, er = chk fs := ⟨_, rfl⟩
  rw [← her] at HC
  have HER := Lib.hid her
  clear hr hp hm hn hcap hmx hno hQ hxb hrb hWa hW0 hz k1 k2 her
  go_enter Tryz.func19, Tryz.ntmps19
  go_wp2_with fail
  rw [← HW0.out, ← HRB.out, ← HXB.out]
  clear x0
  refine HC.out.mono ?_
  rintro e w1 ⟨rfl, hk1⟩
  have HK1 := Lib.hid hk1
  have xb1 := XB0.out.keep hk1
  have x0 := xb1.cell 0 rfl
  have rb1 := RB0.out.keep hk1
  have r0 := rb1.cell 0 rfl; have f0 := rb1.free 0
  clear hk1 xb1 rb1
  by_cases he : er = 0
  · subst he
    have HOK : Hid (chk fs = 0) := Lib.hid HER.out.symm
    have HD0 : Hid (remF fs p = if hasP fs p = false then (18, []) else (0, remL fs p)) := Lib.hid (by unfold remF; rw [if_neg (by rw [HOK.out]; simp)])
    have HPL := Lib.hid (place_any (HR0.out.keep HK1.out) HP.out HOK.out)
    obtain ⟨q, hq⟩ : ∃ q, q = pos fs p := ⟨_, rfl⟩
    obtain ⟨hs, hhs⟩ : ∃ hs, hs = hasP fs p := ⟨_, rfl⟩
    rw [← hq, ← hhs] at HPL
    have HD1 : Hid (remF fs p = if hs = false then (18, []) else (0, remL fs p)) := Lib.hid (by rw [HD0.out, hhs])
    have HHS := Lib.hid hhs; have HQQ := Lib.hid hq
    have hni : (n : Int) ≤ 64 := by have := (chk_ok HOK.out).1; have := HN.out; omega
    clear hq hhs
    go_wp2_with fail
    refine HPL.out.mono ?_
    rintro e w4 ⟨rfl, hk3⟩
    have HK4 := Lib.hid (Kp.trans HK1.out hk3)
    have XB4 := Lib.hid (XB0.out.keep HK4.out)
    have RB4 := Lib.hid (RB0.out.keep HK4.out)
    have x0 := XB4.out.cell 0 rfl
    have r0 := RB4.out.cell 0 rfl; have f0 := RB4.out.free 0
    clear hk3
    cases hs with
    | false =>
      have HD : Hid (remF fs p = (18, [])) := Lib.hid (by rw [HD1.out]; simp)
      go_wp2_with fail
      exact FIN.out _ _ w4 _ 18 [] rfl rfl rfl HK4.out rfl HD.out (NIL.out w4) (fun b hb => by simp [Value.ownBlock] at hb)
    | true =>
      have HD : Hid (remF fs p = (0, remL fs p)) := Lib.hid (by rw [HD1.out]; simp)
      obtain ⟨f, hf, hfp⟩ := hasP_some HHS.out.symm
      rw [← HQQ.out] at hf
      have hqn : q < n := by rw [HN.out]; exact (List.getElem?_eq_some_iff.1 hf).1
      have hqi : (q : Int) < (n : Int) := by omega
      have hwr : IntKind.i64.wrap ((q : Int) + 1) = (q : Int) + 1 := by rw [IntKind.wrap_i64]; omega
      have hq1 : (q : Int) + 1 ≤ (n : Int) := by omega
      have hto : ∀ w, (Instr.slice 26 (.slice ao n cap) none (some (.int .i64 (q : Nat))) none).run Tryz.prog w = .ok (sliced ao 0 q cap 2) w := fun w => fl_to _ _ _ q _ rfl (by have := HCP.out; omega) w
      have hfr : ∀ w, (Instr.slice 26 (.slice ao n cap) (some (.int .i64 ((q : Int) + 1))) none none).run Tryz.prog w = .ok (sliced ao (q + 1) n cap 2) w := fun w => fl_from _ _ _ (q + 1) _ (by omega) (by omega) w
      have h1 := (HR0.out.keep HK4.out).cut (q + 1) n (by omega) (Nat.le_refl _)
      rw [drop_take_len HN.out] at h1
      have h2 := (HR0.out.keep HK4.out).cut 0 q (Nat.zero_le _) (by omega)
      rw [List.drop_zero] at h2
      obtain ⟨la, lc, hL, -, -, -⟩ := h2.open3
      obtain ⟨ll, hll⟩ : ∃ l, l = (fs.take q).length := ⟨_, rfl⟩
      rw [← hll] at hL
      rw [hL] at hto h2
      obtain ⟨sa, sc, hS, -, -, -⟩ := h1.open3
      obtain ⟨sl, hsl⟩ : ∃ l, l = (fs.drop (q + 1)).length := ⟨_, rfl⟩
      rw [← hsl] at hS
      rw [hS] at hfr h1
      have hrem : [fs.take q, fs.drop (q + 1)].flatten = remL fs p := by unfold remL; rw [← HQQ.out]; simp
      have HJ : Hid (∀ X, Kp w4 X → Calls Tryz.prog 41 #[.slice (some ⟨X.heap.size, 0, none⟩) 2 2] (X.alloc (.cells #[.slice la ll lc, .slice sa sl sc] 26)) fun e w' => ∃ v, e = .returned (.agg #[v]) ∧ Rw w' v (remL fs p) ∧ (∀ b, v.ownBlock = some b → X.heap.size ≤ b) ∧ Kp X w') := Lib.hid (fun X hk => by
        have hj := joinF_any (n := 2) (cap := 2) (LisF.two (e := 26) (h2.keep hk) (h1.keep hk)) rfl (by omega) (by
          rw [hrem]
          unfold remL
          rw [List.length_append, List.length_take, List.length_drop]
          have := (chk_ok HOK.out).1
          omega) (by
          intro f hf
          rw [hrem] at hf
          have hmem : f ∈ fs := by
            rcases List.mem_append.1 hf with hf | hf
            · exact List.mem_of_mem_take hf
            · exact List.mem_of_mem_drop hf
          have h5 := chkL_mem (chk_ok HOK.out).2 f hmem
          have h6 := path_len h5.1
          exact ⟨by omega, by omega⟩)
        rw [hrem] at hj
        exact hj.mono (by
          rintro e w' ⟨v, h1, h2, h3, h4⟩
          exact ⟨v, h1, h2, fun b hb => by have h5 := h3 b hb; have h6 := (kp_alloc X (.cells #[.slice la ll lc, .slice sa sl sc] 26)).size; omega, Kp.trans (kp_alloc X _) h4⟩))
      have HNX : Hid (xb ≠ rb) := Lib.hid (by have := HXB.out; have := HRB.out; omega)
      have STO : Hid (∀ X v, Kp w4 X → (X.setCell ⟨rb, 0, none⟩ v).cell? ⟨xb, 0, none⟩ = some (.slice ao n cap)) := Lib.hid (fun X v hk => cell_only ((Only.refl rb X).set 0 v) ((XB4.out.keep hk).cell 0 rfl) HNX.out)
      clear hf hfp hqn h1 h2 hL hll hS hsl hrem
      go_wp2_with fail
      go_region_held3 (fun w' => w'.cell? ⟨xb, 0, none⟩ = some (.slice ao n cap))
        (first
          | exact x0
          | exact STO.out _ _ hk5
          | exact cell_kept x0 hk5
          | exact cell_kept x0 (Kp.trans (kp_drew _) (kp_alloc _ _))
          | fail "no keep")
        (first
          | (go_at_call 41; refine (HJ.out _ (kp_drew _)).mono ?_; rintro e w5 ⟨v5, rfl, hrv5, hnw5, hk5'⟩; have hk5 := Kp.trans (kp_drew w4) hk5'; obtain ⟨a5, c5, hv5, -, -, -⟩ := hrv5.open3; subst hv5; have r5 := (RB4.out.keep hk5).cell 0 rfl; have f5 := (RB4.out.keep hk5).free 0)
          | fail "no arm")
      all_goals
        have HRV := Lib.hid hrv5
        have HK5 := Lib.hid hk5
        have HNW : Hid (∀ b, (Value.slice a5 (remL fs p).length c5).ownBlock = some b → w.heap.size ≤ b) := Lib.hid (fun b hb => by have h3 := hnw5 b hb; have h4 := (Kp.trans HK0.out (Kp.trans HK4.out (kp_drew w4))).size; omega)
        have HNE : Hid (∀ b, (Value.slice a5 (remL fs p).length c5).ownBlock = some b → b ≠ rb) := Lib.hid (fun b hb e => by have h3 := hnw5 b hb; have h4 := (kp_drew w4).size; have h5 := RB4.out.lt; omega)
        clear hrv5 hk5 hk5' hnw5 r5 f5
        go_wp2_with fail
        exact FIN.out _ _ w5 _ 0 (remL fs p) rfl rfl rfl (Kp.trans HK4.out HK5.out) rfl HD.out (fun W' ho => HRV.out.only ho HNE.out) HNW.out
  · have hx1 : ((er : Int) == 0) = false := beq_eq_false_iff_ne.2 (by omega)
    have hx2 : ((er : Int) != 0) = true := by rw [bne_iff_ne]; omega
    have HD : Hid (remF fs p = (er, [])) := Lib.hid (by unfold remF; rw [if_pos (by rw [← HER.out]; exact he), ← HER.out])
    clear he
    go_wp2_with fail
    exact FIN.out _ _ w1 _ er [] rfl rfl rfl HK1.out rfl HD.out (NIL.out w1) (fun b hb => by simp [Value.ownBlock] at hb)
end By
end Go.Proofs.YtmkijkaabcgcbaaGreatDoor
