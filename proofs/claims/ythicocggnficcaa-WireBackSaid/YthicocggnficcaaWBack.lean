/- The law on reading back: it returns true for every list of numbers and every number, and leaves what was there. No condition. -/
import Derived.Test.YthicocggnficcaaWBackA
namespace Go.Proofs.Ythicocggnficcaa
namespace By
open Go.RowKit WireN
set_option linter.unusedVariables false
set_option linter.unusedSimpArgs false

theorem infoU : (Try.prog.info? 23).map (fun i => (i.zero, i.size, i.bytes)) = some (some (.int .u64 0), 1, 8) := by kernel_rfl
theorem infoS : (Try.prog.info? 9).map (fun i => (i.zero, i.size, i.bytes)) = some (some (.string ⟨#[]⟩), 1, 16) := by kernel_rfl
/-- append of one value to a row of the call's own. -/
theorem wpList_av {w wx : World} {ops : Array Oper} {rest : List Oper} {o : Oper} {a : Act} {Q : Exit → Act → World → Prop} (hgd : o.guard = none) (s x : Operand) (T t : TypeId)
    (ho : o.op = .call { callee := .builtin .append, args := #[s, x], argTypes := #[T, T] }) (ht : Try.prog.underlying T = some (.slice t)) (z : Value) (bytes : Nat)
    (hinfo : (Try.prog.info? t).map (fun i => (i.zero, i.size, i.bytes)) = some (some z, 1, bytes)) (hb : bytes ≤ 16) (hz : z.cells.size = 1)
    (v : Value) (vs : List Value) (hs : a.eval s = v) (hown : OwV w wx t v vs) (g c : Nat) (u : Value) (hx : a.eval x = .slice (some ⟨g, 0, none⟩) 1 c) (hu : u.oneCell' = true) (hc : wx.cell? ⟨g, 0, none⟩ = some u)
    (hlen : vs.length ≤ 1000000) (hbase : w.heap.size ≤ wx.heap.size)
    (h : ∀ v' w', OwV w w' t v' (vs ++ [u]) → wx.grownBy w' v.ownBlock → wpList Try.prog ops Q rest (a.put o.dst v') w') : wpList Try.prog ops Q (o :: rest) a wx := by
  obtain ⟨i0, hi, hz0, hz1, hz2⟩ := info_parts hinfo
  refine wpList_append_own wx hgd s x T ho w.heap.size t i0 z 1 bytes ht hi hz0 hz1 hz2 hz (by decide) v vs.length vs hs hown ⟨g, 0, none⟩ 1 c [u] hx rfl (fun j v hj => ?_) (fun v hv => by simp at hv; rw [hv]; exact hu)
    (by unfold maxLen; omega) (by have := Nat.mul_le_mul_left (vs.length + 1) hb; omega) hbase (fun v' w' h1 h2 _ => h v' w' (by unfold OwV; rw [List.length_append]; exact h1) h2)
  cases j with
  | zero => simp at hj; subst hj; exact hc
  | succ j => simp at hj
theorem cell_one (w : World) (t : TypeId) (u : Value) : (w.alloc (.cells #[u] t)).cell? ⟨w.heap.size, 0, none⟩ = some u := (Blk.new w t #[u]).cell 0 rfl
def Good (l : List (Nat × ByteArray)) : Prop := ∀ x ∈ l, x.1 < 18446744073709551616 ∧ x.2.size < 20
theorem Good.snoc {l : List (Nat × ByteArray)} (h : Good l) {u : Nat} {s : ByteArray} (hu : u < 18446744073709551616) (hs : s.size < 20) : Good (l ++ [(u, s)]) := by
  intro x hx
  rcases List.mem_append.1 hx with h1 | h1
  · exact h x h1
  · simp at h1; subst h1; exact ⟨hu, hs⟩

set_option maxRecDepth 100000 in
set_option maxHeartbeats 4000000 in
theorem back_any {v : Value} {zs : List Int} {w : World} (hs : SlI w v zs) (n : Nat) (hn : n < 18446744073709551616) :
    Calls Try.prog 5 #[v, .int .u64 n] w fun e w' => e = .returned (.bool true) ∧ Kp w w' := by
  obtain ⟨⟨ao, cap, rfl, hc, hm, hat⟩, hlt, hsm⟩ := hs
  have HTP : Hid (Tp w (w.alloc (.cells #[.slice ao zs.length cap, .int .i64 0] 54)) w.heap.size 0) :=
    ⟨⟨ao, zs.length, cap, zs, ⟨⟨ao, cap, rfl, hc, hm, hat⟩, hlt, hsm⟩, Blk.new w _ _⟩, kp_alloc _ _, Nat.le_refl _⟩
  obtain ⟨len, hlen⟩ : ∃ len, len = zs.length := ⟨_, rfl⟩
  rw [← hlen] at HTP ⊢
  have HNB := Lib.hid hn
  clear hat hlt hsm hlen hc hm hn
  go_enter Try.func5, Try.ntmps5
  go_wp2_with fail
  refine (TNext_any HTP.out (by omega) 8 (by omega) (by omega)).mono ?_
  rintro e w1 ⟨⟨r0, hr0, rfl⟩, htp1, ho1⟩
  have HTP1 := Lib.hid htp1
  clear htp1 ho1
  go_wp2_with fail
  go_loopw [9, 6, 7, 8] (fun i vo vn vt wy => ∃ (l : List (Nat × ByteArray)) (c at' : Nat), i = .int .i64 c ∧ l.length + c ≤ 7 ∧ at' ≤ 1 + 30 * l.length ∧ WB w wy w.heap.size at' vo vn vt (enc l) (l.map (·.1)) (l.map (·.2)) ∧ Hid (Good l)) (fun i _ _ _ _ => (intOf i).toNat)
  case atStart => exact ⟨[], r0, 1, rfl, by simp; omega, by simp, ⟨HTP1.out, (Own.start w).keep HTP1.out.kp, OwV.start _ _ _, OwV.start _ _ _⟩, fun x hx => by simp at hx⟩
  case round =>
    obtain ⟨l, c, at', rfl, hlc, hata, hwb, hgood⟩ := hrel
    rename World => wx
    have HWB := Lib.hid hwb
    obtain ⟨aoo, co, ho, -, -⟩ := hwb.out.form
    obtain ⟨aon, cn, hnn, -, -⟩ := hwb.nums.form
    obtain ⟨aot, ct, htt, -, -⟩ := hwb.txts.form
    subst ho hnn htt
    clear hwb
    obtain ⟨m, hm⟩ : ∃ m, m = l.length := ⟨_, rfl⟩
    have HM := Lib.hid hm
    rw [← hm] at hlc hata
    have e1 : (l.map fun x => Value.int .u64 ((x.1 : Nat) : Int)).length = m := by simp [hm]
    have e2 : ((l.map (·.1)).map fun (u : Nat) => Value.int .u64 (u : Int)).length = m := by simp [hm]
    have e3 : ((l.map (·.2)).map Value.string).length = m := by simp [hm]
    rw [e2, e3] at HWB ⊢
    clear hm e1 e2 e3
    by_cases hc0 : 0 < c
    · go_wp2_with fail
      refine (TNext_any HWB.out.tp (by omega) 64 (by omega) (by omega)).mono ?_
      rintro e w2 ⟨⟨r, hr, rfl⟩, htp2, ho2⟩
      have HWB2 := Lib.hid (HWB.out.tape htp2 (Only.gr ho2))
      obtain ⟨u, hu⟩ : ∃ u, u = n / 2 ^ r := ⟨_, rfl⟩
      have hub : u ≤ n := by rw [hu]; exact Nat.div_le_self _ _
      have hU : ((n : Int) / 2 ^ r) = (u : Int) := by rw [hu, Int.natCast_ediv, Int.natCast_pow]; rfl
      have HUB : Hid (u < 18446744073709551616) := by have := HNB.out; show _ < _; omega
      clear htp2 ho2 hu hub
      go_wp2_with fail
      clear hU
      refine (TNext_any HWB2.out.tp (by omega) 20 (by omega) (by omega)).mono ?_
      rintro e w3 ⟨⟨r2, hr2, rfl⟩, htp3, ho3⟩
      have HWB3 := Lib.hid (HWB2.out.tape htp3 (Only.gr ho3))
      clear htp3 ho3
      go_wp2_with fail
      refine (TText_any HWB3.out.tp r2 (by omega) _ (by decide) (by decide)).mono ?_
      rintro e w4 ⟨⟨tx, htl, htlt, rfl⟩, htp4, hg4⟩
      obtain ⟨S, hS⟩ : ∃ S, S = st tx := ⟨_, rfl⟩
      have HSS : Hid (S.size < 20) := by show _ < _; rw [hS, st_size, htl]; exact hr2
      rw [← hS]
      have HWB4 := Lib.hid (HWB3.out.tape htp4 hg4)
      clear htp4 hg4 htl htlt hS
      go_wp2_with (at_builtin; refine wpList_av (w := w) rfl (.tmp 39) (.tmp 41) 55 23 rfl Try.underlying55 (.int .u64 0) 8 infoU (by decide) rfl _ _ rfl (HWB4.out.keep (kp_alloc _ _)).nums _ _ (.int .u64 (u : Int)) rfl rfl (cell_one _ _ _) (by have := HM.out; simp; omega) (by have := (HWB4.out.keep (kp_alloc w4 (.cells #[.int .u64 (u : Int)] 23))).kp.size; exact this) ?_)
      intro vn' w5 hov5 hgr5
      have HWB5 := Lib.hid ((HWB4.out.keep (kp_alloc _ _)).num (us' := l.map (·.1) ++ [u]) (by simpa using hov5) hgr5)
      clear hov5 hgr5
      go_wp2_with (at_builtin; refine wpList_av (w := w) rfl (.tmp 43) (.tmp 45) 56 9 rfl Try.underlying56 (.string ⟨#[]⟩) 16 infoS (by decide) rfl _ _ rfl (HWB5.out.keep (kp_alloc _ _)).txts _ _ (.string S) rfl rfl (cell_one _ _ _) (by have := HM.out; simp; omega) (by have := (HWB5.out.keep (kp_alloc w5 (.cells #[.string S] 9))).kp.size; exact this) ?_)
      intro vt' w6 hov6 hgr6
      have HWB6 := Lib.hid ((HWB5.out.keep (kp_alloc _ _)).txt (ss' := l.map (·.2) ++ [S]) (by simpa using hov6) hgr6)
      clear hov6 hgr6
      have HEL : Hid ((enc l).length ≤ 350) := by have := enc_len hgood.out; have := HM.out; show _ ≤ _; omega
      have HTU := Lib.hid (uv_ten HUB.out); have HTI := Lib.hid (uv_ten (fo_lt (iu_bd u))); have HTS := Lib.hid (uv_ten (n := S.size) (by have := HSS.out; omega))
      go_wp2_with fail
      refine (PutUint_any (HWB6.out.out.sl (by have := HEL.out; omega)) (by have := HEL.out; omega) u HUB.out).mono ?_
      rintro e w7 ⟨v7, rfl, hown7⟩
      have HWB7 := Lib.hid (HWB6.out.set hown7.kp hown7 HWB6.out.kp)
      clear hown7
      go_wp2_with fail
      refine (PutInt_any (HWB7.out.out.sl (by have := HEL.out; have := HTU.out; simp; omega)) (by have := HEL.out; have := HTU.out; simp; omega) (iu u) (iu_bd u)).mono ?_
      rintro e w8 ⟨v8, rfl, hown8⟩
      have HWB8 := Lib.hid (HWB7.out.set hown8.kp hown8 HWB7.out.kp)
      clear hown8
      go_wp2_with fail
      refine (PutText_any (HWB8.out.out.sl (by have := HEL.out; have := HTU.out; have := HTI.out; simp; omega)) (by have := HEL.out; have := HTU.out; have := HTI.out; simp; omega) S (by have := HSS.out; omega)).mono ?_
      rintro e w9 ⟨v9, rfl, hown9⟩
      have hwb9 := HWB8.out.set hown9.kp hown9 HWB8.out.kp
      rw [show enc l ++ uv u ++ uv (fo (iu u)) ++ (uv S.size ++ bs S) = enc (l ++ [(u, S)]) by simp [enc_snoc, ent], show l.map (·.1) ++ [u] = (l ++ [(u, S)]).map (·.1) by simp, show l.map (·.2) ++ [S] = (l ++ [(u, S)]).map (·.2) by simp] at hwb9
      have HWB9 := Lib.hid hwb9
      have HG9 : Hid (Good (l ++ [(u, S)])) := hgood.out.snoc HUB.out HSS.out
      clear hown9 hwb9
      go_wp2_with fail
      go_roundw
      case rel => exact ⟨l ++ [(u, S)], c - 1, at' + 1 + 1 + r2, vint (by omega), by have := HM.out; simp; omega, by have := HM.out; simp; omega, HWB9.out, HG9⟩
      case measure => simp [intOf]; omega
    · have HEL : Hid ((enc l).length ≤ 350) := by have := enc_len hgood.out; have := HM.out; show _ ≤ _; omega
      obtain ⟨X, hX⟩ : ∃ X, X = enc l := ⟨_, rfl⟩
      have HX := Lib.hid hX
      rw [← hX] at HWB HEL ⊢
      obtain ⟨LX, hLX⟩ : ∃ LX, LX = X.length := ⟨_, rfl⟩
      have HLX := Lib.hid hLX
      have HSX : Hid (Sl wx (.slice aoo X.length co) X) := HWB.out.out.sl (by have := HEL.out; omega)
      rw [← hLX] at HEL HSX ⊢
      have hlx : LX ≤ 350 := HEL.out
      clear hX hLX
      go_wp2_with fail
      go_loop [57, 12] (fun i p => ∃ k : Nat, k ≤ m ∧ i = .int .i64 k ∧ p = .int .i64 ((enc (l.take k)).length : Nat)) (fun i _ => m - (intOf i).toNat)
      case atStart => exact ⟨0, Nat.zero_le _, rfl, rfl⟩
      case round =>
        obtain ⟨k, hk, rfl, rfl⟩ := hrel
        by_cases hkm : k < m
        · have hkl : k < l.length := by have := HM.out; omega
          obtain ⟨⟨u, S⟩, hx⟩ : ∃ x, l[k] = x := ⟨_, rfl⟩
          obtain ⟨p1, p2, hr1, hr2, hr3, hp1, hp2⟩ := enc_read hgood.out hkl u S hx
          obtain ⟨gn, hgn, hcn⟩ := HWB.out.nums.cell (by omega)
          obtain ⟨gt, hgt, hct⟩ := HWB.out.txts.cell (by omega)
          subst hgn hgt
          have cn1 := hcn k (.int .u64 (u : Int)) (by simp [List.getElem?_eq_getElem hkl, hx])
          have ct1 := hct k (.string S) (by simp [List.getElem?_eq_getElem hkl, hx])
          have hub := (hgood.out _ (List.getElem_mem hkl)).1
          rw [hx] at hub
          rw [← HX.out] at hr1 hr2 hr3 hp1 hp2
          rw [← HLX.out] at hp1 hp2
          obtain ⟨P, hP⟩ : ∃ P, P = (enc (l.take k)).length := ⟨_, rfl⟩
          have hPl : P ≤ LX := by
            have h1 := enc_split hkl
            rw [← HX.out] at h1
            have h2 := congrArg List.length h1
            rw [List.length_append, ← hP, ← HLX.out] at h2
            omega
          obtain ⟨P', hP'⟩ : ∃ P', P' = (enc (l.take (k + 1))).length := ⟨_, rfl⟩
          rw [← hP] at hr1 ⊢
          rw [← hP'] at hr3
          have HR1 := Lib.hid hr1; have HR2 := Lib.hid hr2; have HR3 := Lib.hid hr3; have HP' := Lib.hid hP'
          have HUF : Hid (unfo (fo (iu u)) = wrap64 (u : Int)) := unfo_fo _
          have HST : Hid (st (bs S) = S) := st_bs S
          clear hr1 hr2 hr3 hcn hct hx hP hub hP'
          go_wp2_with fail
          refine (Uint_at HSX.out (P : Nat) (by omega) HR1.out).mono ?_
          rintro e w' ⟨rfl, rfl⟩
          go_wp2_with fail
          refine (Int_at HSX.out (p1 : Nat) (by omega) HR2.out HUF.out).mono ?_
          rintro e w' ⟨rfl, rfl⟩
          go_wp2_with fail
          refine (Text_at HSX.out (p2 : Nat) (by omega) 20 (by omega) HR3.out HST.out).mono ?_
          rintro e w' ⟨rfl, rfl⟩
          go_wp2_with fail
          go_round
          case rel => exact ⟨k + 1, by omega, by go_num, by rw [← HP'.out]⟩
          case measure => simp [intOf]; omega
        · obtain rfl : k = m := by omega
          have HLE : Hid ((enc (l.take k)).length = LX) := by
            show _ = _
            rw [List.take_of_length_le (by have := HM.out; omega), ← HX.out, HLX.out]
          rw [HLE.out]
          go_wp2_with fail
          refine (awake_any _).mono ?_
          rintro e w9 ⟨rfl, hk9⟩
          have HK9 := Lib.hid (Kp.trans HWB.out.kp hk9); clear hk9
          go_wp2_with fail
          go_ret
          exact ⟨rfl, HK9.out⟩
end By
end Go.Proofs.Ythicocggnficcaa
