/- The contract of natural.Format: the decimal digits of a well-formed number. Condition: the library's table of powers of ten holds what its text lays. -/
import Derived.Test.YtdoponlhiidimaaGreatDoorDigit
import Derived.Test.YtdoponlhiidimaaGreatDoorFmt
import Derived.Test.YtdoponlhiidimaaGreatDoorJoin
import Derived.Test.YtdoponlhiidimaaGreatDoorDec
namespace Go.Proofs.YtdoponlhiidimaaGreatDoor
open Go.RowKit LimbN

theorem infoS : (Tryz.prog.info? 9).map (fun i => (i.zero, i.size, i.bytes)) = some (some (.string ⟨#[]⟩), 1, 16) := by kernel_rfl
/-- The bytes of a part. -/
def partB (V t : Nat) : ByteArray := ⟨(D (nine V t) 9).toArray⟩
def partS (V t : Nat) : Sm := ⟨partB V t, by simp [partB, ByteArray.size, D_length]⟩
def SV (ss : List Sm) : List Value := ss.map fun s => Value.string s.1
/-- The list of parts that the call has gathered. -/
structure OwnS (w wr : World) (v : Value) (k : Nat) (ss : List Sm) : Prop where
  owns : wr.ownsRow w.heap.size 9 1 v k (SV ss)
  len : ss.length = k
  kp : Kp w wr
theorem OwnS.start (w : World) : OwnS w w (.slice none 0 0) 0 [] := ⟨World.ownsRow_nil _ _ _ _, rfl, Kp.refl _⟩
theorem OwnS.keep {w wr w1 : World} {v : Value} {k : Nat} {ss : List Sm} (h : OwnS w wr v k ss) (hk : Kp wr w1) : OwnS w w1 v k ss := by
  refine ⟨?_, h.len, Kp.trans h.kp hk⟩
  refine ⟨h.owns.1, ?_⟩
  rcases h.owns.2 with hn | ⟨g, cap, cur, e, hb, hg, r⟩
  · exact .inl hn
  · exact .inr ⟨g, cap, cur, e, hb, by rw [hk.block g (lt_of_block hg)]; exact hg, r⟩
theorem OwnS.app {w wr w1 : World} {v v' : Value} {k : Nat} {s : Sm} {ss : List Sm} {o : Obj} (h : OwnS w wr v k ss) (h1 : w1.ownsRow w.heap.size 9 1 v' (k + 1) (SV ss ++ [.string s.1])) (h2 : (wr.alloc o).grownBy w1 v.ownBlock) : OwnS w w1 v' (k + 1) (ss ++ [s]) := by
  refine ⟨by simpa [SV] using h1, by simp [h.len], ?_⟩
  exact Below.grown (Below.alloc h.kp h.kp.size _) h2 (by have := h.kp.size; simp; omega) (fun k hk => (h.owns.lt k hk).1)
theorem OwnS.shape {w wr : World} {v : Value} {k : Nat} {ss : List Sm} (h : OwnS w wr v k ss) : ∃ ao c, v = .slice ao k c := by
  rcases h.owns.2 with ⟨rfl, h0⟩ | ⟨g, cap, cur, rfl, _⟩
  · exact ⟨none, 0, by rw [h0]⟩
  · exact ⟨_, _, rfl⟩
theorem OwnS.strs {w wr : World} {v : Value} {k : Nat} {ss : List Sm} (h : OwnS w wr v k ss) : Strs wr.heap.size wr v ss := by
  rcases h.owns.2 with ⟨rfl, h0⟩ | ⟨g, cap, cur, rfl, hb, hg, hnc, hcm, hsz, htake⟩
  · exact .inl ⟨rfl, List.eq_nil_of_length_eq_zero (by rw [h.len]; exact h0)⟩
  · refine .inr ⟨g, 0, cap, by rw [h.len], lt_of_block hg, fun j hj => ?_⟩
    rw [Nat.zero_add, cell_of_row wr g j cur 9 (0, 0) hg]
    have h1 : (cur.toList.take (k * 1))[j]? = (SV ss)[j]? := by rw [htake]
    rw [List.getElem?_take, if_pos (by have := h.len; omega)] at h1
    rw [← Array.getElem?_toList, h1]
    simp [SV, List.getElem?_eq_getElem hj]
/-- A slice still reads the same when another row has been written. -/
theorem Sl.grown {w w' : World} {row : Option Nat} {v : Value} {xs : List Nat} (h : Sl w v xs) (hg : w.grownBy w' row) (hne : ∀ k, row = some k → Off k v xs) : Sl w' v xs := by
  obtain ⟨⟨ao, cap, h1, h2, h3, h4, h5⟩, hl, hs⟩ := h
  refine ⟨⟨ao, cap, h1, h2, h3, ?_, h5⟩, hl, hs⟩
  rcases h4 with h4 | ⟨b, off, rfl, h4⟩
  · exact .inl h4
  · by_cases hx : xs = []
    · exact .inl hx
    · refine .inr ⟨b, off, rfl, fun i hi => hg.cell (h4 i hi) (fun e => ?_)⟩
      exact hne b e.symm hx _ _ _ h1 rfl
/-- append of one string to a slice of the call's own. -/
theorem wpList_appS {w : World} {ops : Array Oper} {rest : List Oper} {o : Oper} {a : Act} {Q : Exit → Act → World → Prop} (hgd : o.guard = none) (s x : Operand)
    (ho : o.op = .call { callee := .builtin .append, args := #[s, x], argTypes := #[94, 94] }) (base : Nat)
    (v : Value) (n : Nat) (xs : List Value) (hs : a.eval s = v) (t : ByteArray) (hown : (w.alloc (.cells #[.string t] 9)).ownsRow base 9 1 v n xs)
    (hx : a.eval x = .slice (some ⟨w.heap.size, 0, none⟩) 1 1) (hsum : n ≤ 1000000) (hbase : base ≤ w.heap.size)
    (h : ∀ v' w', w'.ownsRow base 9 1 v' (n + 1) (xs ++ [.string t]) → (w.alloc (.cells #[.string t] 9)).grownBy w' v.ownBlock → wpList Tryz.prog ops Q rest (a.put o.dst v') w') :
    wpList Tryz.prog ops Q (o :: rest) a (w.alloc (.cells #[.string t] 9)) := by
  obtain ⟨i0, hi, hz0, hz1, hz2⟩ := info_parts infoS
  refine wpList_append_own _ hgd s x 94 ho base 9 i0 (.string ⟨#[]⟩) 1 16 Tryz.underlying94 hi hz0 hz1 hz2 rfl (by decide) v n xs hs hown ⟨w.heap.size, 0, none⟩ 1 1 [.string t] hx rfl ?_ ?_ (by unfold maxLen; omega) (by omega) (by simp; omega) (fun v' w' h1 h2 _ => h v' w' h1 h2)
  · intro j u hj
    match j, hj with
    | 0, hj => simp at hj; subst hj; rw [Addr.add_lit, cell_of_row _ w.heap.size 0 _ _ (0, 0) (heap_alloc_new w _)]; rfl
  · intro u hu; simp at hu; subst hu; rfl

/-- '0' as often as is lacking to nine digits, and the digits. -/
theorem cat9 (p : Nat) (z sd : ByteArray) (hsd : sd = ⟨(Lib.decDigits p).toArray⟩) (hz : z = ⟨(Lib.repeatL [48] (9 - sd.size)).toArray⟩) (hp : p < 1000000000) : z ++ sd = ⟨(D p 9).toArray⟩ := by
  have hn : Lib.nDigits p ≤ 9 := nD_le p 8 (by omega)
  have hs : sd.size = Lib.nDigits p := by rw [hsd]; simp [ByteArray.size, Lib.decDigits_length]
  apply ByteArray.ext
  rw [ByteArray.data_append, hz, hs, hsd]
  simp only []
  rw [D_pad p 9 hn, repeatL_one]
  simp
theorem bytes_back (V k : Nat) : bytesOf (upto (back ((List.range k).map (partS V))) ((List.range k).map (partS V)).length) = D V (9 * k) := by
  rw [← parts_flat]
  unfold bytesOf
  congr 1
  have e : upto (back ((List.range k).map (partS V))) ((List.range k).map (partS V)).length = (List.range k).map (fun t => (k - 1 - t, partS V (k - 1 - t))) := by
    unfold upto
    rw [List.length_map, List.length_range]
    apply List.map_congr_left
    intro t ht
    rw [List.mem_range] at ht
    unfold back
    simp only [List.length_map, List.length_range]
    rw [List.getElem?_map, List.getElem?_range (by omega)]
    rfl
  rw [e, List.map_map]
  apply List.ext_getElem (by simp)
  intro i h1 h2
  simp only [List.length_map, List.length_range] at h1
  simp [partS, partB, List.getElem_reverse]
set_option maxHeartbeats 400000 in
theorem Format_bad {xs : List Nat} {v : Value} {w : World} (ha : Sl w v xs) (hx : wf xs = false) :
    Calls Tryz.prog 56 #[v] w fun e w' => e = .returned (.tuple #[.string ⟨#[]⟩, .int .i64 1]) ∧ w = w' := by
  have HA := Lib.hid ha; have HX := Lib.hid hx; clear ha hx
  go_enter Tryz.func56, Tryz.ntmps56
  go_wp2_with fail
  refine (check_any HA.out).mono ?_
  rintro e w' ⟨rfl, rfl⟩
  rw [HX.out]
  go_wp2
  go_ret2
  exact ⟨rfl, rfl⟩
set_option maxHeartbeats 400000 in
theorem Format_zero {v : Value} {w : World} (ha : Sl w v []) :
    Calls Tryz.prog 56 #[v] w fun e w' => e = .returned (.tuple #[.string ⟨(Lib.decDigits 0).toArray⟩, .int .i64 0]) ∧ w = w' := by
  have HA := Lib.hid ha
  obtain ⟨ao, cap, rfl, -⟩ := ha.ex
  clear ha
  have e0 : Lib.decDigits 0 = [48] := by rw [Lib.decDigits_one (by omega)]; rfl
  have E0 := Lib.hid e0; clear e0
  go_enter Tryz.func56, Tryz.ntmps56
  go_wp2_with fail
  refine (check_any HA.out).mono ?_
  rintro e w' ⟨rfl, rfl⟩
  rw [wf_nil]
  go_wp2
  go_ret2
  exact ⟨by rw [E0.out]; rfl, rfl⟩
set_option maxRecDepth 100000 in
set_option maxHeartbeats 2000000 in
theorem Format_pos {xs : List Nat} {va : Value} {w : World} (ha : Sl w va xs) (hx : wf xs = true) (h0 : xs ≠ []) (htab : Tab w) :
    Calls Tryz.prog 56 #[va] w fun e w' => e = .returned (.tuple #[.string ⟨(Lib.decDigits (val xs)).toArray⟩, .int .i64 0]) ∧ Kp w w' := by
  have hca := wf_canon ha.lt hx
  have hVpos : 1 ≤ val xs := by
    rcases Nat.eq_zero_or_pos (val xs) with h | h
    · exfalso; rw [h] at hca; exact h0 hca.1.symm
    · exact h
  have hVb : val xs < 4294967296 ^ 128 := pow_max hca.2 (val_lt ha.lt)
  have hl0 : 0 < xs.length := List.length_pos_iff.2 h0
  have hsl : Sl w va (limbs (val xs / 1000000000 ^ 0)) := by rw [Nat.pow_zero, Nat.div_one, hca.1]; exact ha
  obtain ⟨V, hV⟩ : ∃ V, V = val xs := ⟨_, rfl⟩
  rw [← hV] at hVpos hVb hsl
  rw [← hV]
  have HA := Lib.hid ha; have HX := Lib.hid hx; have HTAB := Lib.hid htab; have HVB := Lib.hid hVb; have HSL := Lib.hid hsl
  obtain ⟨ao, cap, rfl, -⟩ := ha.ex
  obtain ⟨la, hla⟩ : ∃ la, la = xs.length := ⟨_, rfl⟩
  rw [← hla] at hl0 HA HSL
  rw [← hla]
  have hl0' : ((la : Int) == 0) = false := beq_eq_false_iff_ne.2 (by omega)
  clear ha hx htab hVb hsl hca h0 hV hla
  go_enter Tryz.func56, Tryz.ntmps56
  go_wp2_with fail
  refine (check_any HA.out).mono ?_
  rintro e w' ⟨rfl, rfl⟩
  rw [HX.out]
  go_wp2_with fail
  go_loopw [4, 5] (fun pv rv wr => ∃ (k : Nat), k ≤ V ∧ k ≤ 142 ∧ OwnS w wr pv k ((List.range k).map (partS V)) ∧ Sl wr rv (limbs (V / 1000000000 ^ k))) (fun pv _ _ => V - lenOf pv)
  case atStart => exact ⟨0, by omega, by omega, OwnS.start w, HSL.out⟩
  case round =>
    obtain ⟨k, hk1, hk2, hown, hsl⟩ := hrel
    have HOWN := Lib.hid hown; have HSLR := Lib.hid hsl
    have hsz := hown.kp.size
    clear hown hsl
    obtain ⟨a4, c4, rfl⟩ := HOWN.out.shape
    obtain ⟨a5, c5, rfl, -⟩ := HSLR.out.ex
    obtain ⟨r, er⟩ : ∃ r, r = V / 1000000000 ^ k := ⟨_, rfl⟩
    rw [← er] at HSLR ⊢
    have ER := Lib.hid er; clear er
    by_cases hr : r = 0
    · subst hr
      have hl : Hid ((limbs 0).length = 0) := limbs_len_zero.2 rfl
      rw [hl.out] at HSLR ⊢
      have hst := HOWN.out.strs
      have hlt : V < 10 ^ (9 * k) := by
        have h1 := ER.out
        have hpos : 0 < 1000000000 ^ k := Nat.pow_pos (by omega)
        rw [Nat.pow_mul, show (10 : Nat) ^ 9 = 1000000000 by rfl]
        exact (Nat.div_eq_zero_iff_lt hpos).1 h1.symm
      have hjoin := join_any a4 k c4 ((List.range k).map (partS V)) (by simp; omega) wr (by simpa using hst)
      rw [bytes_back V k] at hjoin
      have HJ := Lib.hid hjoin; have HLT := Lib.hid hlt
      clear hst hjoin hlt
      go_wp2_with fail
      refine HJ.out.mono ?_
      rintro e w2 ⟨rfl, hk⟩
      have HK := Lib.hid (Kp.trans HOWN.out.kp hk); clear hk
      go_wp2_with fail
      refine (Tryz.strings_TrimLeft_one ⟨(D V (9 * k)).toArray⟩ 48 (by decide) w2).mono ?_
      rintro e w3 ⟨rfl, rfl⟩
      have htr : Lib.trimLeftB (⟨(D V (9 * k)).toArray⟩ : ByteArray).data.toList 48 = Lib.decDigits V := by
        show List.dropWhile _ _ = _
        simpa using trim_D V (9 * k) hVpos HLT.out
      rw [htr]
      go_wp2
      go_ret2
      exact ⟨rfl, HK.out⟩
    · have hlp := limbs_len_pos.2 hr
      obtain ⟨lr, hlr⟩ : ∃ lr, lr = (limbs r).length := ⟨_, rfl⟩
      rw [← hlr] at hlp HSLR ⊢
      clear hlr
      have hc := byLimb_any (d := 1000000000) HSLR.out (by omega) (by omega)
      rw [val_limbs] at hc
      obtain ⟨p, hp⟩ : ∃ p, p = r % 1000000000 := ⟨_, rfl⟩
      rw [← hp] at hc
      have hpb : p < 1000000000 := by omega
      have HP := Lib.hid hp; have HC := Lib.hid hc
      clear hp hc
      go_wp2_with fail
      refine HC.out.mono ?_
      rintro e w2 ⟨v2, rfl, hs2, hn2, hk2⟩
      have HN2 := Lib.hid hn2; have HS2 := Lib.hid hs2; have HOWN2 := Lib.hid (HOWN.out.keep hk2)
      clear hs2 hn2 hk2
      go_wp2_with fail
      refine (FormatUint_any p (by omega) w2 (HTAB.out.keep HOWN2.out.kp)).mono ?_
      rintro e w3 ⟨rfl, hk3⟩
      have HS3 := Lib.hid (HS2.out.keep hk3); have HOWN3 := Lib.hid (HOWN2.out.keep hk3)
      clear hk3
      obtain ⟨sd, hsd⟩ : ∃ sd : ByteArray, sd = ⟨(Lib.decDigits p).toArray⟩ := ⟨_, rfl⟩
      have hsds : sd.size ≤ 9 := by rw [hsd]; simp only [ByteArray.size, List.size_toArray, Lib.decDigits_length]; exact nD_le p 8 (by omega)
      rw [← hsd]
      have SD := Lib.hid hsd; clear hsd
      go_wp2_with fail
      rw [show (9 : Int) - (sd.size : Int) = ((9 - sd.size : Nat) : Int) by omega]
      refine (Tryz.strings_Repeat ⟨#[48]⟩ (9 - sd.size) w3 (by omega) (by simp only [ByteArray.size, List.size_toArray, List.length_cons, List.length_nil]; omega)).mono ?_
      rintro e w4 ⟨rfl, hk4⟩
      have HS4 := Lib.hid (HS3.out.keep hk4); have HOWN4 := Lib.hid (HOWN3.out.keep hk4)
      have hsz4 := HOWN4.out.kp.size
      clear hk4
      obtain ⟨z, hz⟩ : ∃ z : ByteArray, z = ⟨(Lib.repeatL [48] (9 - sd.size)).toArray⟩ := ⟨_, rfl⟩
      rw [← hz]
      have hzs : z.size ≤ 9 := by rw [hz]; simp only [ByteArray.size, List.size_toArray, Lib.repeatL_length, List.length_cons, List.length_nil]; omega
      have HZ := Lib.hid hz; clear hz
      have HPN : Hid (z ++ sd = (partS V k).1) := by
        show _ = _
        rw [cat9 p z sd SD.out HZ.out hpb]
        show _ = partB V k
        unfold partB nine
        rw [HP.out, ER.out]
      have hk3 : k < 142 := by
        refine many_parts HVB.out ?_
        have hpos : 0 < 1000000000 ^ k := Nat.pow_pos (by omega)
        have := (Nat.le_div_iff_mul_le hpos (x := 1) (y := V)).1 (by have := ER.out; omega)
        omega
      have hk4 : k + 1 ≤ V := by
        have hpos : 0 < 1000000000 ^ k := Nat.pow_pos (by omega)
        have h1 := (Nat.le_div_iff_mul_le hpos (x := 1) (y := V)).1 (by have := ER.out; omega)
        have h2 : k < 1000000000 ^ k := Nat.lt_pow_self (by omega)
        omega
      go_wp2_with (at_builtin; refine wpList_appS rfl (.tmp 27) (.tmp 34) rfl w.heap.size _ k _ rfl _ (HOWN4.out.owns.alloc _) rfl (by omega) (by omega) ?_)
      intro v' w5 hown' hgr
      rw [HPN.out] at hown' hgr
      have hown5 := HOWN4.out.app (s := partS V k) hown' hgr
      have HS5 : Hid (Sl w5 v2 (limbs (r / 1000000000))) := by
        refine (HS4.out.keep (Kp.alloc (Kp.refl w4) _)).grown hgr (fun g hg => ?_)
        intro _ a l c e hag
        have h1 := HN2.out a l c e
        have h2 := (HOWN.out.owns.lt g hg).2
        omega
      have HOWN5 := Lib.hid hown5
      clear hown' hgr hown5
      obtain ⟨a6, c6, rfl⟩ := HOWN5.out.shape
      go_wp2
      go_roundw
      case rel =>
        refine ⟨k + 1, hk4, by omega, ?_, ?_⟩
        · rw [List.range_succ, List.map_append]; exact HOWN5.out
        · rw [Nat.pow_succ, ← Nat.div_div_eq_div_mul, ← ER.out]; exact HS5.out
      case measure => simp [lenOf]; omega
end Go.Proofs.YtdoponlhiidimaaGreatDoor
