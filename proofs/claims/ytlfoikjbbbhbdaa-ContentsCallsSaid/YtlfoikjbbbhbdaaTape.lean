/- The tape of small numbers that the laws draw from: Fold, Next, Text. Conditions: the tape lies in memory as it is named, and has been read fewer than a million times. -/
import Derived.Test.YtlfoikjbbbhbdaaWOwn
import Derived.Test.YtlfoikjbbbhbdaaStr
namespace Go.Proofs.Ytlfoikjbbbhbdaa
namespace By
open Go.RowKit WireN
set_option linter.unusedVariables false
set_option linter.unusedSimpArgs false

/-- A slice that reads as 64-bit integers. -/
def AtI (w : World) (ao : Option Addr) (zs : List Int) : Prop :=
  zs = [] ∨ ∃ b off, ao = some ⟨b, off, none⟩ ∧ ∀ i : Nat, i < zs.length → w.cell? ⟨b, off + i, none⟩ = some (.int .i64 (zs[i]?.getD 0))
structure SlI (w : World) (v : Value) (zs : List Int) : Prop where
  ex : ∃ ao cap, v = .slice ao zs.length cap ∧ zs.length ≤ cap ∧ cap ≤ maxLen ∧ AtI w ao zs
  lt : ∀ i : Nat, -9223372036854775808 ≤ zs[i]?.getD 0 ∧ zs[i]?.getD 0 ≤ 9223372036854775807
  sm : zs.length ≤ 17592186044416
theorem AtI.keep {w w' : World} {ao : Option Addr} {zs : List Int} (h : AtI w ao zs) (hk : Kp w w') : AtI w' ao zs := by
  rcases h with rfl | ⟨b, off, rfl, h⟩
  · exact .inl rfl
  · exact .inr ⟨b, off, rfl, fun i hi => cell_kept (h i hi) hk⟩
theorem SlI.keep {w w' : World} {v : Value} {zs : List Int} (h : SlI w v zs) (hk : Kp w w') : SlI w' v zs := by
  obtain ⟨⟨ao, cap, h1, h2, h3, h4⟩, hl, hs⟩ := h
  exact ⟨⟨ao, cap, h1, h2, h3, h4.keep hk⟩, hl, hs⟩

/-- Only block g has changed, and new memory was made. -/
abbrev Gr (g : Nat) (w w' : World) : Prop := w.grownBy w' (some g)
theorem Gr.refl (g : Nat) (w : World) : Gr g w w := World.grownBy.refl w _
theorem Gr.trans {g : Nat} {a b c : World} (h : Gr g a b) (k : Gr g b c) : Gr g a c :=
  ⟨k.os.trans h.os, k.tape.trans h.tape, k.output.trans h.output, Nat.le_trans h.size k.size, fun i hi hne => (k.block i (Nat.lt_of_lt_of_le hi h.size) hne).trans (h.block i hi hne)⟩
theorem Only.gr {g : Nat} {a b : World} (h : Only g a b) : Gr g a b := ⟨h.os, h.tape, h.output, Nat.le_of_eq h.size, fun i _ hne => h.block i (fun e => hne (by rw [e]))⟩
theorem Kp.gr {a b : World} (h : Kp a b) (g : Nat) : Gr g a b := ⟨h.os, h.tape, h.output, h.size, fun i hi _ => h.block i hi⟩
theorem Gr.kp {g : Nat} {a b c : World} (h : Gr g b c) (hk : Kp a b) (hg : a.heap.size ≤ g) : Kp a c :=
  Below.trans hk ⟨h.os, h.tape, h.output, h.size, fun k hk' => h.block k (Nat.lt_of_lt_of_le hk' hk.size) (fun e => by injection e; omega)⟩
theorem Gr.by {g : Nat} {a b c : World} {row : Option Nat} (h : Gr g a b) (k : b.grownBy c row) (hr : ∀ r, row = some r → a.heap.size ≤ r) : Gr g a c :=
  ⟨k.os.trans h.os, k.tape.trans h.tape, k.output.trans h.output, Nat.le_trans h.size k.size, fun i hi hne => (k.block i (Nat.lt_of_lt_of_le hi h.size) (fun e => by have := hr _ e.symm; omega)).trans (h.block i hi hne)⟩
theorem Blk.by {w w' : World} {r : Nat} {t : TypeId} {cs : Array Value} {row : Option Nat} (h : Blk w r t cs) (hg : w.grownBy w' row) (hne : some r ≠ row) : Blk w' r t cs := (hg.block r h.lt hne).trans h

/-- The tape in block g. -/
structure Tp (w0 w : World) (g : Nat) (at' : Nat) : Prop where
  ex : ∃ ao len cap zs, SlI w0 (.slice ao len cap) zs ∧ Blk w g 28 #[.slice ao len cap, .int .i64 (at' : Nat)]
  kp : Kp w0 w
  ge : w0.heap.size ≤ g
theorem Tp.gr {w0 w w' : World} {g at' r : Nat} (h : Tp w0 w g at') (hg : w.grownBy w' (some r)) (hr : w0.heap.size ≤ r) (hne : g ≠ r) : Tp w0 w' g at' := by
  obtain ⟨ao, len, cap, zs, hs, hb⟩ := h.ex
  exact ⟨⟨ao, len, cap, zs, hs, hb.by hg (fun e => hne (by injection e))⟩, Gr.kp hg h.kp hr, h.ge⟩
theorem Tp.keep {w0 w w' : World} {g at' : Nat} (h : Tp w0 w g at') (hk : Kp w w') : Tp w0 w' g at' := by
  obtain ⟨ao, len, cap, zs, hs, hb⟩ := h.ex
  exact ⟨⟨ao, len, cap, zs, hs, hb.keep hk⟩, Kp.trans h.kp hk, h.ge⟩
theorem Tp.by {w0 w w' : World} {g at' : Nat} {row : Option Nat} (h : Tp w0 w g at') (hg : w.grownBy w' row) (hr : ∀ r, row = some r → w0.heap.size ≤ r ∧ g ≠ r) : Tp w0 w' g at' := by
  obtain ⟨ao, len, cap, zs, hs, hb⟩ := h.ex
  refine ⟨⟨ao, len, cap, zs, hs, hb.by hg (fun e => (hr g e.symm).2 rfl)⟩, ?_, h.ge⟩
  exact Below.grown h.kp hg h.kp.size (fun k hk => (hr k hk).1)

set_option maxRecDepth 100000 in
set_option maxHeartbeats 400000 in
theorem Fold_any (v : Int) (hv : -9223372036854775808 ≤ v ∧ v ≤ 9223372036854775807) (n : Nat) (hn : 2 ≤ n) (hn2 : n ≤ 1000000) (w : World) :
    Calls Try.prog 29 #[.int .i64 v, .int .i64 n] w fun e w' => (∃ r : Nat, r < n ∧ e = .returned (.int .i64 r)) ∧ w = w' := by
  obtain ⟨h1, h2⟩ := hv
  by_cases h : v < 0
  · obtain ⟨u, hu⟩ : ∃ u : Nat, v = -(u : Int) := ⟨(-v).toNat, by omega⟩
    subst hu
    have ht : (-(u : Int)).tmod (n : Int) = -((u % n : Nat) : Int) := by rw [Int.neg_tmod, Int.natCast_emod]; rfl
    have hlt : u % n < n := Nat.mod_lt _ (by omega)
    obtain ⟨m, hm⟩ : ∃ m, m = u % n := ⟨_, rfl⟩
    rw [← hm] at ht hlt
    have HT := Lib.hid ht
    clear hm ht
    by_cases h0 : m = 0
    · subst h0
      have ht : (-(u : Int)).tmod (n : Int) = 0 := by rw [HT.out]; rfl
      go_enter Try.func29, Try.ntmps29
      go_wp2_with fail
      go_ret
      exact ⟨⟨0, by omega, rfl⟩, rfl⟩
    · have ht := HT.out
      go_enter Try.func29, Try.ntmps29
      go_wp2_with fail
      go_ret
      exact ⟨⟨n - m, by omega, ret_int (by omega)⟩, rfl⟩
  · obtain ⟨u, hu⟩ : ∃ u : Nat, v = (u : Int) := ⟨v.toNat, by omega⟩
    subst hu
    have hlt : u % n < n := Nat.mod_lt _ (by omega)
    have HLT := Lib.hid hlt
    clear hlt
    go_enter Try.func29, Try.ntmps29
    go_wp2_with fail
    go_ret
    exact ⟨⟨u % n, HLT.out, ret_int (by simp)⟩, rfl⟩

set_option maxRecDepth 100000 in
set_option maxHeartbeats 1000000 in
theorem TNext_any {w0 w : World} {g at' : Nat} (ht : Tp w0 w g at') (ha : at' < 1000000) (n : Nat) (hn : 2 ≤ n) (hn2 : n ≤ 1000000) :
    Calls Try.prog 18 #[.pointer (some ⟨g, 0, none⟩), .int .i64 n] w fun e w' => (∃ r : Nat, r < n ∧ e = .returned (.int .i64 r)) ∧ Tp w0 w' g (at' + 1) ∧ Only g w w' := by
  obtain ⟨ao, len, cap, zs, hs, hb⟩ := ht.ex
  obtain ⟨⟨ao', cap', e0, hc, hm, hat⟩, hlt, hsm⟩ := hs
  simp only [Value.slice.injEq] at e0
  obtain ⟨rfl, rfl, rfl⟩ := e0
  have HFIN : Hid (∀ (n1 : Nat) (w1 : World) (A : Int), A = ((at' + 1 : Nat) : Int) → w1 = ((w.drewN n1).setCell ⟨g, 1, none⟩ (.int .i64 A)) → Tp w0 w1 g (at' + 1) ∧ Only g w w1) := by
    intro n1 w1 A hA hw1
    subst hA hw1
    have ho : Only g w ((w.drewN n1).setCell ⟨g, 1, none⟩ (.int .i64 ((at' + 1 : Nat) : Int))) := Only.set (Only.drewN (Only.refl g w) n1) 1 _
    exact ⟨⟨⟨ao, zs.length, cap, zs, ⟨⟨ao, cap, rfl, hc, hm, hat⟩, hlt, hsm⟩, (hb.drewN n1).set 1 _⟩, Only.kp ht.kp ho ht.ge, ht.ge⟩, ho⟩
  have c0 := hb.cell 0 rfl; have c1 := hb.cell 1 rfl; have f1 := hb.free 1
  obtain ⟨len, hlen⟩ : ∃ len, len = zs.length := ⟨_, rfl⟩
  rw [← hlen] at c0 hc hsm
  by_cases hal : at' < len
  · obtain ⟨b, off, rfl, hcell⟩ : ∃ b off, ao = some ⟨b, off, none⟩ ∧ ∀ i : Nat, i < zs.length → w0.cell? ⟨b, off + i, none⟩ = some (.int .i64 (zs[i]?.getD 0)) := by
      rcases hat with h | h
      · rw [h] at hlen; simp at hlen; omega
      · exact h
    have cz := cell_kept (hcell at' (by omega)) ht.kp
    have hz := hlt at'
    obtain ⟨z, ez⟩ : ∃ z, z = zs[at']?.getD 0 := ⟨_, rfl⟩
    rw [← ez] at cz hz
    clear ez hcell hat hlt ht hb hlen hm
    go_enter Try.func18, Try.ntmps18
    go_wp2_with fail
    go_quiet (fail)
    go_wp2_with fail
    go_quiet (fail)
    go_wp2_with fail
    refine (Fold_any z hz n hn hn2 _).mono ?_
    rintro e w' ⟨⟨r, hr, rfl⟩, rfl⟩
    go_wp2_with fail
    go_ret
    exact ⟨⟨r, hr, rfl⟩, HFIN.out _ _ _ (by omega) rfl⟩
  · clear hat hlt ht hb hlen hm
    go_enter Try.func18, Try.ntmps18
    go_wp2_with fail
    go_quiet (fail)
    go_wp2_with fail
    refine (Fold_any ((at' : Int) * 7 % 11) (by omega) n hn hn2 _).mono ?_
    rintro e w' ⟨⟨r, hr, rfl⟩, rfl⟩
    go_wp2_with fail
    go_ret
    exact ⟨⟨r, hr, rfl⟩, HFIN.out _ _ _ (by omega) rfl⟩

/-- What is appended to, in memory that was made since w. -/
structure OwG (w wr : World) (v : Value) (zs : List Nat) : Prop where
  owns : wr.ownsRow w.heap.size 5 1 v zs.length (U zs)
  lt : Lt zs
theorem OwG.form {w wr : World} {v : Value} {zs : List Nat} (h : OwG w wr v zs) : ∃ ao cap, v = .slice ao zs.length cap := by
  rcases h.owns.2 with ⟨rfl, h0⟩ | ⟨g, cap, cur, rfl, hb, hg, hnc, hcm, hsz, htake⟩
  · exact ⟨none, 0, by rw [h0]⟩
  · exact ⟨_, cap, rfl⟩
theorem OwG.kept {w wr w1 : World} {v : Value} {zs : List Nat} {g : Nat} (h : OwG w wr v zs) (hg : Gr g wr w1) (hlt : g < w.heap.size) : OwG w w1 v zs := by
  refine ⟨h.owns.kept hg ?_, h.lt⟩
  rcases h.owns.2 with ⟨rfl, _⟩ | ⟨g', cap', cur, rfl, hb', _⟩
  · exact .inl rfl
  · right; intro e; simp [Value.ownBlock] at e; omega
theorem at_one {w : World} {D : Int} {e : TypeId} {d : Nat} (h : D = (d : Int)) : At (w.alloc (.cells #[.int .u8 D] e)) (some ⟨w.heap.size, 0, none⟩) [d] := by
  subst h
  refine .inr ⟨w.heap.size, 0, rfl, fun i hi => ?_⟩
  obtain rfl : i = 0 := by simpa using hi
  rw [cell_of_row _ w.heap.size 0 _ e (0, 0) (heap_alloc_new w _)]
  simp
set_option maxRecDepth 100000 in
set_option maxHeartbeats 2000000 in
theorem TText_any {w0 w : World} {g at' : Nat} (ht : Tp w0 w g at') (n : Nat) (ha : at' + n < 1000000) (s : ByteArray) (hs : 2 ≤ s.size) (hs2 : s.size ≤ 1000) :
    Calls Try.prog 34 #[.pointer (some ⟨g, 0, none⟩), .int .i64 n, .string s] w fun e w' => (∃ xs : List Nat, xs.length = n ∧ Lt xs ∧ e = .returned (.string (st xs))) ∧ Tp w0 w' g (at' + n) ∧ Gr g w w' := by
  have HT := Lib.hid ht
  have hgw : g < w.heap.size := by obtain ⟨_, _, _, _, _, hb⟩ := ht.ex; exact hb.lt
  have hge := ht.ge
  clear ht
  obtain ⟨l, el⟩ : ∃ l, l = s.size := ⟨_, rfl⟩
  have qs : ∀ w, (Builtin.len_ #[9] 3 #[.string s]).run Try.prog w = .ok (goInt l) w := fun w => by rw [run_len_string w _ _ s Try.underlying9, el]
  have EL := Lib.hid el
  rw [← el] at hs hs2
  clear el
  go_enter Try.func34, Try.ntmps34
  go_wp2_with fail
  go_loopw [8, 7] (fun i v wy => ∃ (k : Nat) (zs : List Nat), k ≤ n ∧ i = .int .i64 k ∧ zs.length = k ∧ OwG w wy v zs ∧ Tp w0 wy g (at' + k) ∧ Gr g w wy) (fun i _ _ => n - (intOf i).toNat)
  case atStart => exact ⟨0, [], Nat.zero_le _, rfl, rfl, ⟨World.ownsRow_nil _ _ _ _, Lt.nil⟩, HT.out, Gr.refl _ _⟩
  case round =>
    obtain ⟨k, zs, hk, rfl, hzl, hown, htp, hgr⟩ := hrel
    rename World => wx
    have HOWN := Lib.hid hown; have HTP := Lib.hid htp; have HGR := Lib.hid hgr; have HZL := Lib.hid hzl
    clear hown htp hgr hzl
    by_cases hkn : k < n
    · go_wp2_with fail
      refine (TNext_any HTP.out (by omega) l hs (by omega)).mono ?_
      rintro e w1 ⟨⟨r, hr, rfl⟩, htp1, ho1⟩
      have HTP1 := Lib.hid htp1; have HO1 := Lib.hid ho1
      clear htp1 ho1
      have hx : ∀ w, (Instr.index 9 (.string s) (.int .i64 (r : Int))).run Try.prog w = .ok (.int .u8 ((bs s)[r]?.getD 0 : Nat)) w := by
        intro w
        have hrs : r < s.size := by have := EL.out; omega
        rw [run_index_string w 9 s .i64 r Try.underlying9, dif_pos (by omega), ← bs_get s r hrs]
        have h1 : r < s.data.toList.length := hrs
        rw [List.getD_eq_getElem?_getD, List.getElem?_eq_getElem h1]
        rfl
      have hxb := bs_lt s r
      obtain ⟨x, ex⟩ : ∃ x, x = (bs s)[r]?.getD 0 := ⟨_, rfl⟩
      rw [← ex] at hxb
      simp only [← ex] at hx
      clear ex
      have HOWN1 := Lib.hid (HOWN.out.kept (Only.gr HO1.out) hgw)
      obtain ⟨ao, cp, hfo⟩ := HOWN.out.form
      subst hfo
      have HSZ : Hid (w.heap.size ≤ w1.heap.size) := by have := HGR.out.size; have := HO1.out.size; show _ ≤ _; omega
      go_wp2_with (at_builtin; refine wpList_app rfl (.tmp 14) (.tmp 21) 48 rfl Try.underlying48 w.heap.size _ zs.length zs rfl (HOWN1.out.owns.alloc _) (some ⟨_, 0, none⟩) 1 1 [x] rfl rfl (at_one rfl) (fun h => nomatch h) (by have := HZL.out; omega) (by have := HSZ.out; simp; omega) ?_)
      intro v' w2 hown2 hgr2
      have hkk := kp_alloc w1 (.cells #[.int .u8 (x : Nat)] 5)
      have hrow : ∀ r, (Value.slice ao zs.length cp).ownBlock = some r → w.heap.size ≤ r := fun r hr => (HOWN1.out.owns.lt r hr).1
      have HN : Hid (OwG w w2 v' (zs ++ [x]) ∧ Tp w0 w2 g (at' + k + 1) ∧ Gr g w w2) :=
        ⟨⟨by rw [List.length_append]; exact hown2, HOWN1.out.lt.append (Lt.one hxb)⟩, (HTP1.out.keep hkk).by hgr2 (fun r hr => ⟨by have := hrow r hr; omega, by have := hrow r hr; omega⟩),
          Gr.by (Gr.trans (Gr.trans HGR.out (Only.gr HO1.out)) (hkk.gr g)) hgr2 hrow⟩
      have HZ2 : Hid ((zs ++ [x]).length = k + 1) := by show _ = _; have := HZL.out; simp; omega
      clear hown2 hgr2 hkk hrow
      go_wp2_with fail
      go_roundw
      case rel => exact ⟨k + 1, zs ++ [x], by omega, by go_num, HZ2.out, HN.out.1, HN.out.2.1, HN.out.2.2⟩
      case measure => simp [intOf]; omega
    · obtain rfl : k = n := by omega
      have hlz := HZL.out
      have hcv := conv_str (sl_of_owns HOWN.out.owns HOWN.out.lt (by omega)).1
      have HOWL := Lib.hid HOWN.out.lt
      obtain ⟨S, hS⟩ : ∃ S, S = st zs := ⟨_, rfl⟩
      rw [← hS] at hcv
      have HSE := Lib.hid hS
      clear hlz hS
      go_wp2_with fail
      go_ret
      exact ⟨⟨zs, HZL.out, HOWL.out, by rw [← HSE.out]; rfl⟩, HTP.out, HGR.out⟩
end By
end Go.Proofs.Ytlfoikjbbbhbdaa
