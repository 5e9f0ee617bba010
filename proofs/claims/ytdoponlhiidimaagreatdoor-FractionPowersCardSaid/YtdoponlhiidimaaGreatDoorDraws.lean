/- Fractions drawn from a tape: Pick, Chance, Inner. Conditions: the tape lies in memory as it is named, and has been read fewer than a million times. -/
import Derived.Test.YtdoponlhiidimaaGreatDoorMTp
import Derived.Test.YtdoponlhiidimaaGreatDoorMCa
import Derived.Test.YtdoponlhiidimaaGreatDoorTimes
namespace Go.Proofs.YtdoponlhiidimaaGreatDoor
open Go.RowKit LimbN
set_option linter.unusedVariables false
set_option linter.unusedSimpArgs false

theorem At.gr {g : Nat} {w w' : World} {ao : Option Addr} {xs : List Nat} (h : At w ao xs) (hg : Gr g w w') (hne : xs ≠ [] → ∀ a, ao = some a → a.block ≠ g) : At w' ao xs := by
  rcases h with rfl | ⟨b, off, rfl, h⟩
  · exact .inl rfl
  · refine .inr ⟨b, off, rfl, fun i hi => ?_⟩
    have hx : xs ≠ [] := fun e => by subst e; simp at hi
    have h1 := h i hi
    have hb : b ≠ g := hne hx _ rfl
    exact (World.cell?_of_block (hg.block b (World.block_lt_of_cell? w _ h1) (fun e => hb (by injection e)))).trans h1
theorem Sl.gr {g : Nat} {w w' : World} {v : Value} {xs : List Nat} (h : Sl w v xs) (hg : Gr g w w') (ho : Off g v xs) : Sl w' v xs := by
  obtain ⟨⟨ao, cap, h1, h2, h3, h4, h5⟩, hl, hs⟩ := h
  exact ⟨⟨ao, cap, h1, h2, h3, h4.gr hg (fun hx a ha => ho hx a _ _ (by rw [h1, ha])), h5⟩, hl, hs⟩
/-- A number from a list of numbers. -/
theorem Pick_any {w0 w : World} {g at' : Nat} (ht : Tp w0 w g at') (ha : at' < 1000000) {b c : Nat} {t : TypeId} {zs : List Int} (hb : Blk w b t (zs.map fun z => Value.int .i64 z).toArray) (hn : 1 ≤ zs.length) (hn2 : zs.length ≤ 1000) (hbg : b ≠ g) :
    Calls Tryz.prog 25 #[.pointer (some ⟨g, 0, none⟩), .slice (some ⟨b, 0, none⟩) zs.length c] w fun e w' => (∃ z ∈ zs, e = .returned (.int .i64 z)) ∧ Tp w0 w' g (at' + 1) ∧ Only g w w' := by
  have HT := Lib.hid ht; have HB := Lib.hid hb; have HN := Lib.hid hn2
  clear ht hb
  obtain ⟨n, en⟩ : ∃ n, n = zs.length := ⟨_, rfl⟩
  rw [← en] at hn hn2 ⊢
  have EN := Lib.hid en
  have h0 : ((n : Int) == 0) = false := beq_eq_false_iff_ne.2 (by omega)
  clear en
  go_enter Tryz.func25, Tryz.ntmps25
  go_wp2_with fail
  refine (TNext_any HT.out ha n hn (by omega)).mono ?_
  rintro e w1 ⟨⟨r, hr, rfl⟩, ht1, ho1⟩
  have HT1 := Lib.hid ht1; have HO1 := Lib.hid ho1
  have hrl : r < zs.length := by have := EN.out; omega
  obtain ⟨z, ez⟩ : ∃ z, z = zs[r] := ⟨_, rfl⟩
  have hz : w1.cell? ⟨b, r, none⟩ = some (.int .i64 z) := (HB.out.other ho1 hbg).cell r (by rw [ez]; simp [List.getElem?_eq_getElem hrl])
  have HZ : Hid (z ∈ zs) := by show _; rw [ez]; exact List.getElem_mem hrl
  clear ht1 ho1 ez hrl
  go_wp2_with fail
  go_ret
  exact ⟨⟨z, HZ.out, rfl⟩, HT1.out, HO1.out⟩
/-- A chance that was drawn. -/
structure DrR (w0 : World) (g at' : Nat) (lo : Nat) (w : World) (e : Ending) (w' : World) : Prop where
  ex : ∃ n d vn vd, e = .returned (.agg #[vn, vd]) ∧ Sl w' vn (limbs n) ∧ Sl w' vd (limbs d) ∧ New w.heap.size vn ∧ New w.heap.size vd ∧ 0 < d ∧ d ≤ 1000 ∧ n ≤ d ∧ lo ≤ n ∧ Nat.gcd n d = 1
  tp : Tp w0 w' g (at' + 2)
  gr : Gr g w w'
theorem dr_low {k d lo : Nat} (hd : 0 < d) (hd2 : d ≤ 1000) (hk : k ≤ d) (hlo : lo ≤ 1) (hl : lo ≤ k) : 0 < (FracN.low k d).2 ∧ (FracN.low k d).2 ≤ 1000 ∧ (FracN.low k d).1 ≤ (FracN.low k d).2 ∧ lo ≤ (FracN.low k d).1 ∧ Nat.gcd (FracN.low k d).1 (FracN.low k d).2 = 1 := by
  have hg : 0 < Nat.gcd k d := Nat.gcd_pos_of_pos_right _ hd
  refine ⟨FracN.low_pos hd, Nat.le_trans (FracN.low_le_self k d).2 hd2, Nat.div_le_div_right hk, ?_, FracN.low_gcd hd⟩
  rcases Nat.eq_zero_or_pos lo with h | h
  · omega
  · have : 0 < (FracN.low k d).1 := Nat.div_pos (Nat.le_of_dvd (by omega) (Nat.gcd_dvd_left _ _)) hg
    omega
set_option maxRecDepth 100000 in
set_option maxHeartbeats 1000000 in
theorem Chance_any {w0 w : World} {g at' : Nat} (ht : Tp w0 w g at') (ha : at' + 2 < 1000000) (hgw : g < w.heap.size) :
    Calls Tryz.prog 9 #[.pointer (some ⟨g, 0, none⟩)] w (DrR w0 g at' 0 w) := by
  obtain ⟨w1, hw1, HK1, HB1, hz1⟩ := start2 w 26
  have hs1 : w1.heap.size = w.heap.size + 1 := by rw [hw1]; simp
  have hw0 := ht.kp.size
  have HT := Lib.hid ht
  have HW1 := Lib.hid hw1
  obtain ⟨w2, hw2⟩ : ∃ w2, w2 = w1.alloc (Obj.cells #[.int .i64 1, .int .i64 2, .int .i64 3, .int .i64 4, .int .i64 10, .int .i64 100, .int .i64 1000, .int .i64 997, .int .i64 7] 3) := ⟨_, rfl⟩
  have hb2 : Blk w2 (w.heap.size + 1) 3 (([1, 2, 3, 4, 10, 100, 1000, 997, 7] : List Int).map fun z => Value.int .i64 z).toArray := by rw [hw2, ← hs1]; exact Blk.new _ _ _
  have HK2 : Hid (Kp w1 w2) := by show Kp w1 w2; rw [hw2]; exact Kp.alloc (Kp.refl _) _
  have HB2 := Lib.hid hb2; have HW2 := Lib.hid hw2
  clear ht hw1 hb2 hw2
  go_enter Tryz.func9, Tryz.ntmps9
  go_wp2_with fail
  rw [← HW1.out, ← HW2.out]
  refine (Pick_any (HT.out.keep (Kp.trans HK1.out HK2.out)) (by omega) (zs := [1, 2, 3, 4, 10, 100, 1000, 997, 7]) (c := 9) HB2.out (by decide) (by decide) (by omega)).mono ?_
  rintro e w3 ⟨⟨z, hz, rfl⟩, ht3, ho3⟩
  obtain ⟨d, rfl, hd1, hd2, hdl⟩ : ∃ d : Nat, z = (d : Int) ∧ 0 < d ∧ d ≤ 1000 ∧ 1 + 0 ≤ d := by
    simp only [List.mem_cons, List.not_mem_nil, or_false] at hz
    rcases hz with rfl | rfl | rfl | rfl | rfl | rfl | rfl | rfl | rfl
    · exact ⟨1, rfl, by decide, by decide, by decide⟩
    · exact ⟨2, rfl, by decide, by decide, by decide⟩
    · exact ⟨3, rfl, by decide, by decide, by decide⟩
    · exact ⟨4, rfl, by decide, by decide, by decide⟩
    · exact ⟨10, rfl, by decide, by decide, by decide⟩
    · exact ⟨100, rfl, by decide, by decide, by decide⟩
    · exact ⟨1000, rfl, by decide, by decide, by decide⟩
    · exact ⟨997, rfl, by decide, by decide, by decide⟩
    · exact ⟨7, rfl, by decide, by decide, by decide⟩
  have HT3 := Lib.hid ht3; have HO3 := Lib.hid ho3
  clear ht3 ho3 hz
  obtain ⟨m, hm⟩ : ∃ m, m = d + 1 := ⟨_, rfl⟩
  have em : (d : Int) + 1 = (m : Int) := by omega
  have hm1 : 1 ≤ m := by omega
  have hm2 : m ≤ 1001 := by omega
  have hm3 : m ≤ d + 1 := by omega
  clear hm
  go_wp2_with fail
  refine (TNext_any HT3.out (by omega) m (by omega) (by omega)).mono ?_
  rintro e w4 ⟨⟨r, hr, rfl⟩, ht4, ho4⟩
  have HT4 := Lib.hid ht4; have HO4 := Lib.hid ho4
  clear ht4 ho4
  obtain ⟨q, hq⟩ : ∃ q, q = r := ⟨_, rfl⟩
  rw [← hq]
  have hqd : q ≤ d := by omega
  clear em hq
  go_wp2_with fail
  refine (Small_any (a := q) (b := d) (by omega) hd1 (by omega)).mono ?_
  intro e w5 hq
  obtain ⟨⟨vn, vd, rfl, h1, h2, n1, n2⟩, hk⟩ := hq
  obtain ⟨no, nl, nc, rfl⟩ := h1.open3
  obtain ⟨do', dl, dc, rfl⟩ := h2.open3
  have hl := dr_low (k := q) (d := d) (lo := 0) hd1 hd2 (by omega) (by decide) (by omega)
  have hne : w.heap.size ≠ g := by omega
  have hT := (((HB1.out.keep HK2.out).other HO3.out hne).other HO4.out hne).keep hk
  have hP := Put.made hT (.slice no nl nc) (.slice do' dl dc)
  have f0 := hT.free 0; have c0 := hT.c0; have f1 := (hT.set0 (.slice no nl nc)).free 1; have c1 := (hT.set0 (.slice no nl nc)).c1
  obtain ⟨wz, hwz⟩ : ∃ wz, wz = (w5.setCell ⟨w.heap.size, 0, none⟩ (.slice no nl nc)).setCell ⟨w.heap.size, 1, none⟩ (.slice do' dl dc) := ⟨_, rfl⟩
  rw [← hwz] at hP
  have s14 : w1.heap.size ≤ w4.heap.size := by have := HK2.out.size; have := HO3.out.size; have := HO4.out.size; omega
  have FIN : DrR w0 g at' 0 w (.returned (.agg #[.slice no nl nc, .slice do' dl dc])) wz := by
    refine ⟨⟨_, _, _, _, rfl, h1.only hP.only (n1.offs (by omega) _), h2.only hP.only (n2.offs (by omega) _), n1.mono (by omega), n2.mono (by omega), hl.1, hl.2.1, hl.2.2.1, hl.2.2.2.1, hl.2.2.2.2⟩, ?_, ?_⟩
    · exact (HT4.out.keep hk).gr hP.only.gr hw0 (fun e => hne e.symm)
    · refine Gr.by (Gr.trans (Gr.trans (Gr.trans ((Kp.trans HK1.out HK2.out).gr g) HO3.out.gr) HO4.out.gr) (hk.gr g)) hP.only.gr (fun r hr => ?_)
      injection hr with hr
      omega
  have HF := Lib.hid FIN; have HP := Lib.hid hP; have HWZ := Lib.hid hwz
  clear hP FIN hwz hl h1 h2 n1 n2 hk hT
  go_wp2_with fail
  rw [← HWZ.out]
  clear c0 c1 f0 f1
  have c0 := HP.out.two.c0
  have c1 := HP.out.two.c1
  exact bodyPost_ret (by simp [results, Tryz.results9, go_sem, c0, c1]) rfl HF.out
end Go.Proofs.YtdoponlhiidimaaGreatDoor
