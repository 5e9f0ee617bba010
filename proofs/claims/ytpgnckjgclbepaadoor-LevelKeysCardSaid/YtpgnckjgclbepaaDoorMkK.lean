/- The maker's keys. Condition: the tape has a few draws left. -/
import Derived.Test.YtpgnckjgclbepaaDoorKyK
import Derived.Test.YtpgnckjgclbepaaDoorMkL
namespace Go.Proofs.YtpgnckjgclbepaaDoor
namespace By
open Go.RowKit WireN LexN RevN KeyN
set_option linter.unusedVariables false
set_option linter.unusedSimpArgs false

theorem lst_st {ls : List (List Nat)} {ss : List ByteArray} (he : ss = ls.map st) {s : ByteArray} (h : s ∈ ss) : ∃ l ∈ ls, s = st l := by
  rw [he, List.mem_map] at h
  obtain ⟨l, h1, h2⟩ := h
  exact ⟨l, h1, h2.symm⟩
/-- What the maker takes for a name. -/
def mkN (l : List Nat) : Prop := nameB l = true ∧ Lt l ∧ l.length ≤ 8
def mkP (l : List Nat) : Prop := pathB l = true ∧ Lt l ∧ l.length ≤ 8
theorem mkFunctions {s : ByteArray} (h : s ∈ ([⟨#[102]⟩, ⟨#[103]⟩, ⟨#[104]⟩, ⟨#[107]⟩] : List ByteArray)) : ∃ l, s = st l ∧ mkN l := by
  obtain ⟨l, h1, rfl⟩ := lst_st (ls := [[102], [103], [104], [107]]) rfl h
  refine ⟨l, rfl, ?_⟩
  simp only [List.mem_cons, List.not_mem_nil, or_false] at h1
  rcases h1 with rfl | rfl | rfl | rfl <;> exact ⟨by decide +kernel, lt_dec (by decide +kernel), by decide⟩
theorem mkPackages {s : ByteArray} (h : s ∈ ([⟨#[112]⟩, ⟨#[113]⟩, ⟨#[115]⟩] : List ByteArray)) : ∃ l, s = st l ∧ mkN l := by
  obtain ⟨l, h1, rfl⟩ := lst_st (ls := [[112], [113], [115]]) rfl h
  refine ⟨l, rfl, ?_⟩
  simp only [List.mem_cons, List.not_mem_nil, or_false] at h1
  rcases h1 with rfl | rfl | rfl <;> exact ⟨by decide +kernel, lt_dec (by decide +kernel), by decide⟩
theorem mkTests {s : ByteArray} (h : s ∈ ([⟨#[116]⟩, ⟨#[117]⟩, ⟨#[118]⟩] : List ByteArray)) : ∃ l, s = st l ∧ mkN l := by
  obtain ⟨l, h1, rfl⟩ := lst_st (ls := [[116], [117], [118]]) rfl h
  refine ⟨l, rfl, ?_⟩
  simp only [List.mem_cons, List.not_mem_nil, or_false] at h1
  rcases h1 with rfl | rfl | rfl <;> exact ⟨by decide +kernel, lt_dec (by decide +kernel), by decide⟩
theorem mkVariables {s : ByteArray} (h : s ∈ ([⟨#[110]⟩, ⟨#[109]⟩] : List ByteArray)) : ∃ l, s = st l ∧ mkN l := by
  obtain ⟨l, h1, rfl⟩ := lst_st (ls := [[110], [109]]) rfl h
  refine ⟨l, rfl, ?_⟩
  simp only [List.mem_cons, List.not_mem_nil, or_false] at h1
  rcases h1 with rfl | rfl <;> exact ⟨by decide +kernel, lt_dec (by decide +kernel), by decide⟩
theorem mkPaths {s : ByteArray} (h : s ∈ ([⟨#[97, 46, 100, 97, 116]⟩, ⟨#[100, 47, 98, 46, 100, 97, 116]⟩, ⟨#[99]⟩, ⟨#[97, 46, 115, 114, 99]⟩, ⟨#[120, 46, 115, 114, 99]⟩] : List ByteArray)) : ∃ l, s = st l ∧ mkP l := by
  obtain ⟨l, h1, rfl⟩ := lst_st (ls := [[97, 46, 100, 97, 116], [100, 47, 98, 46, 100, 97, 116], [99], [97, 46, 115, 114, 99], [120, 46, 115, 114, 99]]) rfl h
  refine ⟨l, rfl, ?_⟩
  simp only [List.mem_cons, List.not_mem_nil, or_false] at h1
  rcases h1 with rfl | rfl | rfl | rfl | rfl <;> exact ⟨by decide +kernel, lt_dec (by decide +kernel), by decide⟩
set_option maxRecDepth 100000 in
set_option maxHeartbeats 8000000 in
theorem MKey_q {w0 w : World} {g n : Nat} (ht : Tq w0 w g (n + 3)) : Calls Tryd.prog 6 #[.pointer (some ⟨g, 0, none⟩)] w fun e w' => (∃ x : Ky, e = .returned (vK x) ∧ KyS x ∧ chkK x = true) ∧ Tq w0 w' g n ∧ Gr g w w' := by
  obtain ⟨R, hR⟩ : ∃ R : Ending → World → Prop, R = fun e w' => (∃ x : Ky, e = .returned (vK x) ∧ KyS x ∧ chkK x = true) ∧ Tq w0 w' g n ∧ Gr g w w' := ⟨_, rfl⟩
  have HGLT : Hid (g < w.heap.size) := Lib.hid ht.lt
  have HGE : Hid (w0.heap.size ≤ w.heap.size) := Lib.hid ht.base.size
  -- what is stored in the result's memory
  have FIN : Hid (∀ (W : World) (x : Ky) (a : Act), Blk W w.heap.size 29 #[.int .i64 0, .string ⟨#[]⟩, .string ⟨#[]⟩] → Tq w0 W g n → Gr g w W → KyS x → chkK x = true → a.defers = [] → a.tmps.getD 2 undef = .pointer (some ⟨w.heap.size, 0, none⟩) →
      bodyPost Tryd.prog Tryd.f6 R .ret a (((W.setCell ⟨w.heap.size, 0, none⟩ (.int .i64 x.1)).setCell ⟨w.heap.size, 1, none⟩ (.string (st x.2.1))).setCell ⟨w.heap.size, 2, none⟩ (.string (st x.2.2)))) := Lib.hid (by
    intro W x a hb hq hg hx hc h0 h2
    have b3 := ((hb.set 0 (.int .i64 x.1)).set 1 (.string (st x.2.1))).set 2 (.string (st x.2.2))
    have o3 := (((Only.refl w.heap.size W).set 0 (.int .i64 x.1)).set 1 (.string (st x.2.1))).set 2 (.string (st x.2.2))
    have e0 := b3.cell 0 (v := .int .i64 x.1) rfl
    have e1 := b3.cell 1 (v := .string (st x.2.1)) rfl
    have e2 := b3.cell 2 (v := .string (st x.2.2)) rfl
    have h2' : a.tmps[2]?.getD undef = .pointer (some ⟨w.heap.size, 0, none⟩) := by simpa using h2
    refine bodyPost_ret (v := vK x) (by simp [results, Tryd.results6, go_sem, h2', e0, e1, e2, vK]) h0 ?_
    have := HGLT.out; have := HGE.out
    rw [hR]
    exact ⟨⟨x, rfl, hx, hc⟩, hq.only o3 (by omega) (by omega), hg.by (Only.gr o3) (fun r hr => by injection hr with hr; omega)⟩)
  rw [← hR]
  clear hR
  have HK0 := Lib.hid (kp_alloc w (.cells #[.int .i64 0, .string ⟨#[]⟩, .string ⟨#[]⟩] 29))
  have HRB := Lib.hid (Blk.new w 29 #[.int .i64 0, .string ⟨#[]⟩, .string ⟨#[]⟩])
  have HN := Lib.hid (Next_q (n := n + 2) (ht.keep HK0.out) 7 (by omega) (by omega))
  clear ht
  go_enter Tryd.func6, Tryd.ntmps6
  go_wp2_with fail
  refine HN.out.mono ?_
  rintro e w1 ⟨⟨r, hr, rfl⟩, hq1, hg1⟩
  have HQ1 := Lib.hid hq1
  have HG1 := Lib.hid (((HK0.out).gr g).trans hg1)
  have HRB1 := Lib.hid (HRB.out.by hg1 (by have := HGLT.out; simp; omega))
  have HPK := Lib.hid (Packages_q g w1 hq1.lt)
  have hri : (r : Int) < 7 := by omega
  clear hq1 hg1
  go_wp2_with fail
  refine HPK.out.mono ?_
  rintro e w2 ⟨v2, rfl, hp2, hk2⟩
  have HQ2 := Lib.hid (HQ1.out.keep hk2)
  have HG2 := Lib.hid (HG1.out.trans (hk2.gr g))
  have HRB2 := Lib.hid (HRB1.out.keep hk2)
  have HON := Lib.hid (One_q (n := n + 1) HQ2.out hp2)
  obtain ⟨_, _, rfl, -, -⟩ := hp2.ex
  clear hp2 hk2
  go_wp2_with fail
  refine HON.out.mono ?_
  rintro e w3 ⟨⟨s3, rfl, -, hs3⟩, hq3, hg3⟩
  obtain ⟨la, rfl, hla⟩ := mkPackages (hs3 (by decide))
  have HLA := Lib.hid hla
  have HQ3 := Lib.hid hq3
  have HG3 := Lib.hid (HG2.out.trans hg3)
  have HRB3 := Lib.hid (HRB2.out.by hg3 (by have := HGLT.out; simp; omega))
  obtain ⟨kb, hkb⟩ : ∃ kb, kb = w3.heap.size := ⟨_, rfl⟩
  have HKB := Lib.hid hkb
  have HKG : Hid (g < kb ∧ w.heap.size < kb) := Lib.hid (by rw [hkb]; exact ⟨hq3.lt, HRB3.out.lt⟩)
  clear hs3 hq3 hg3 hla hkb
  obtain rfl | rfl | rfl | rfl | rfl | rfl | rfl : r = 0 ∨ r = 1 ∨ r = 2 ∨ r = 3 ∨ r = 4 ∨ r = 5 ∨ r = 6 := by omega
  · obtain ⟨w4, hw4⟩ : ∃ w4, w4 = w3.alloc (.cells #[.int .i64 1, .string (st la), .string ⟨#[]⟩] 29) := ⟨_, rfl⟩
    have HW4 := Lib.hid hw4
    have hk4 : Kp w3 w4 := by rw [hw4]; exact kp_alloc _ _
    have bk : Blk w4 kb 29 #[.int .i64 1, .string (st la), .string ⟨#[]⟩] := by rw [hw4, HKB.out]; exact Blk.new _ _ _
    have BK := Lib.hid bk
    have HQ4 := Lib.hid (HQ3.out.keep hk4)
    have HG4 := Lib.hid (HG3.out.trans (hk4.gr g))
    have HRB4 := Lib.hid (HRB3.out.keep hk4)
    have c0 := bk.cell 0 rfl; have c1 := bk.cell 1 rfl; have c2 := bk.cell 2 rfl
    have HFN := Lib.hid (Functions_q g w4 HQ4.out.lt)
    clear hw4 hk4 bk
    go_wp2_with fail
    rw [← HW4.out, ← HKB.out]
    refine HFN.out.mono ?_
    rintro e w5 ⟨v5, rfl, hp5, hk5⟩
    have HQ5 := Lib.hid (HQ4.out.keep hk5)
    have HG5 := Lib.hid (HG4.out.trans (hk5.gr g))
    have HRB5 := Lib.hid (HRB4.out.keep hk5)
    have BK5 := Lib.hid (BK.out.keep hk5)
    have HON2 := Lib.hid (One_q (n := n) HQ5.out hp5)
    obtain ⟨_, _, rfl, -, -⟩ := hp5.ex
    clear hp5 hk5 c0 c1 c2
    go_wp2_with fail
    refine HON2.out.mono ?_
    rintro e w6 ⟨⟨s6, rfl, -, hs6⟩, hq6, hg6⟩
    obtain ⟨lb, rfl, hlb⟩ := mkFunctions (hs6 (by decide))
    have HLB := Lib.hid hlb
    have bk6 := BK5.out.by hg6 (by have := HKG.out; simp; omega)
    have rb6 := HRB5.out.by hg6 (by have := HGLT.out; simp; omega)
    have c0 := bk6.cell 0 rfl; have c1 := bk6.cell 1 rfl; have c2 := bk6.cell 2 rfl
    have x0 := bk6.free 0; have x1 := bk6.free 1; have x2 := bk6.free 2
    have o7 := (Only.refl kb w6).set 2 (.string (st lb))
    have bk7 := bk6.set 2 (.string (st lb))
    have rb7 := rb6.other o7 (by have := HKG.out; omega)
    obtain ⟨w7, hw7⟩ : ∃ w7, w7 = w6.setCell ⟨kb, 2, none⟩ (.string (st lb)) := ⟨_, rfl⟩
    rw [← hw7] at o7 bk7 rb7
    have bk7' : Blk w7 kb 29 #[.int .i64 1, .string (st la), .string (st lb)] := bk7
    have HF : Hid (Tq w0 w7 g n ∧ Gr g w w7 ∧ Blk w7 w.heap.size 29 #[.int .i64 0, .string ⟨#[]⟩, .string ⟨#[]⟩]) := Lib.hid ⟨hq6.only o7 (by have := HKG.out; have := HGE.out; omega) (by have := HKG.out; omega), (HG5.out.trans hg6).by (Only.gr o7) (fun r hr => by injection hr with hr; have := HKG.out; omega), rb7⟩
    have C0 := Lib.hid (bk7'.cell 0 rfl); have C1 := Lib.hid (bk7'.cell 1 rfl); have C2 := Lib.hid (bk7'.cell 2 rfl)
    have HW7 := Lib.hid hw7
    clear hs6 hq6 hg6 hlb bk6 rb6 o7 bk7 bk7' rb7 hw7
    have d0 := HF.out.2.2.cell 0 rfl; have d1 := HF.out.2.2.cell 1 rfl; have d2 := HF.out.2.2.cell 2 rfl
    have f0 := HF.out.2.2.free 0; have f1 := HF.out.2.2.free 1; have f2 := HF.out.2.2.free 2
    have C0 := C0.out; have C1 := C1.out; have C2 := C2.out
    rw [HW7.out] at d0 d1 d2 f0 f1 f2 C0 C1 C2
    go_wp2_with fail
    rw [← HW7.out]
    exact FIN.out w7 (1, la, lb) _ HF.out.2.2 HF.out.1 HF.out.2.1 ⟨⟨HLA.out.2.1, HLB.out.2.1⟩, by have := HLA.out.2.2; show la.length ≤ 1000; omega, by have := HLB.out.2.2; show lb.length ≤ 1000; omega⟩ (by simp [chkK, HLA.out.1, HLB.out.1]) rfl rfl
  · obtain ⟨w4, hw4⟩ : ∃ w4, w4 = w3.alloc (.cells #[.int .i64 2, .string (st la), .string ⟨#[]⟩] 29) := ⟨_, rfl⟩
    have HW4 := Lib.hid hw4
    have hk4 : Kp w3 w4 := by rw [hw4]; exact kp_alloc _ _
    have bk : Blk w4 kb 29 #[.int .i64 2, .string (st la), .string ⟨#[]⟩] := by rw [hw4, HKB.out]; exact Blk.new _ _ _
    have BK := Lib.hid bk
    have HQ4 := Lib.hid (HQ3.out.keep hk4)
    have HG4 := Lib.hid (HG3.out.trans (hk4.gr g))
    have HRB4 := Lib.hid (HRB3.out.keep hk4)
    have c0 := bk.cell 0 rfl; have c1 := bk.cell 1 rfl; have c2 := bk.cell 2 rfl
    have HFN := Lib.hid (Tests_q g w4 HQ4.out.lt)
    clear hw4 hk4 bk
    go_wp2_with fail
    rw [← HW4.out, ← HKB.out]
    refine HFN.out.mono ?_
    rintro e w5 ⟨v5, rfl, hp5, hk5⟩
    have HQ5 := Lib.hid (HQ4.out.keep hk5)
    have HG5 := Lib.hid (HG4.out.trans (hk5.gr g))
    have HRB5 := Lib.hid (HRB4.out.keep hk5)
    have BK5 := Lib.hid (BK.out.keep hk5)
    have HON2 := Lib.hid (One_q (n := n) HQ5.out hp5)
    obtain ⟨_, _, rfl, -, -⟩ := hp5.ex
    clear hp5 hk5 c0 c1 c2
    go_wp2_with fail
    refine HON2.out.mono ?_
    rintro e w6 ⟨⟨s6, rfl, -, hs6⟩, hq6, hg6⟩
    obtain ⟨lb, rfl, hlb⟩ := mkTests (hs6 (by decide))
    have HLB := Lib.hid hlb
    have bk6 := BK5.out.by hg6 (by have := HKG.out; simp; omega)
    have rb6 := HRB5.out.by hg6 (by have := HGLT.out; simp; omega)
    have c0 := bk6.cell 0 rfl; have c1 := bk6.cell 1 rfl; have c2 := bk6.cell 2 rfl
    have x0 := bk6.free 0; have x1 := bk6.free 1; have x2 := bk6.free 2
    have o7 := (Only.refl kb w6).set 2 (.string (st lb))
    have bk7 := bk6.set 2 (.string (st lb))
    have rb7 := rb6.other o7 (by have := HKG.out; omega)
    obtain ⟨w7, hw7⟩ : ∃ w7, w7 = w6.setCell ⟨kb, 2, none⟩ (.string (st lb)) := ⟨_, rfl⟩
    rw [← hw7] at o7 bk7 rb7
    have bk7' : Blk w7 kb 29 #[.int .i64 2, .string (st la), .string (st lb)] := bk7
    have HF : Hid (Tq w0 w7 g n ∧ Gr g w w7 ∧ Blk w7 w.heap.size 29 #[.int .i64 0, .string ⟨#[]⟩, .string ⟨#[]⟩]) := Lib.hid ⟨hq6.only o7 (by have := HKG.out; have := HGE.out; omega) (by have := HKG.out; omega), (HG5.out.trans hg6).by (Only.gr o7) (fun r hr => by injection hr with hr; have := HKG.out; omega), rb7⟩
    have C0 := Lib.hid (bk7'.cell 0 rfl); have C1 := Lib.hid (bk7'.cell 1 rfl); have C2 := Lib.hid (bk7'.cell 2 rfl)
    have HW7 := Lib.hid hw7
    clear hs6 hq6 hg6 hlb bk6 rb6 o7 bk7 bk7' rb7 hw7
    have d0 := HF.out.2.2.cell 0 rfl; have d1 := HF.out.2.2.cell 1 rfl; have d2 := HF.out.2.2.cell 2 rfl
    have f0 := HF.out.2.2.free 0; have f1 := HF.out.2.2.free 1; have f2 := HF.out.2.2.free 2
    have C0 := C0.out; have C1 := C1.out; have C2 := C2.out
    rw [HW7.out] at d0 d1 d2 f0 f1 f2 C0 C1 C2
    go_wp2_with fail
    rw [← HW7.out]
    exact FIN.out w7 (2, la, lb) _ HF.out.2.2 HF.out.1 HF.out.2.1 ⟨⟨HLA.out.2.1, HLB.out.2.1⟩, by have := HLA.out.2.2; show la.length ≤ 1000; omega, by have := HLB.out.2.2; show lb.length ≤ 1000; omega⟩ (by simp [chkK, HLA.out.1, HLB.out.1]) rfl rfl
  · obtain ⟨w4, hw4⟩ : ∃ w4, w4 = w3.alloc (.cells #[.int .i64 3, .string (st la), .string ⟨#[]⟩] 29) := ⟨_, rfl⟩
    have HW4 := Lib.hid hw4
    have hk4 : Kp w3 w4 := by rw [hw4]; exact kp_alloc _ _
    have bk : Blk w4 kb 29 #[.int .i64 3, .string (st la), .string ⟨#[]⟩] := by rw [hw4, HKB.out]; exact Blk.new _ _ _
    have BK := Lib.hid bk
    have HQ4 := Lib.hid (HQ3.out.keep hk4)
    have HG4 := Lib.hid (HG3.out.trans (hk4.gr g))
    have HRB4 := Lib.hid (HRB3.out.keep hk4)
    have c0 := bk.cell 0 rfl; have c1 := bk.cell 1 rfl; have c2 := bk.cell 2 rfl
    have HFN := Lib.hid (Paths_q g w4 HQ4.out.lt)
    clear hw4 hk4 bk
    go_wp2_with fail
    rw [← HW4.out, ← HKB.out]
    refine HFN.out.mono ?_
    rintro e w5 ⟨v5, rfl, hp5, hk5⟩
    have HQ5 := Lib.hid (HQ4.out.keep hk5)
    have HG5 := Lib.hid (HG4.out.trans (hk5.gr g))
    have HRB5 := Lib.hid (HRB4.out.keep hk5)
    have BK5 := Lib.hid (BK.out.keep hk5)
    have HON2 := Lib.hid (One_q (n := n) HQ5.out hp5)
    obtain ⟨_, _, rfl, -, -⟩ := hp5.ex
    clear hp5 hk5 c0 c1 c2
    go_wp2_with fail
    refine HON2.out.mono ?_
    rintro e w6 ⟨⟨s6, rfl, -, hs6⟩, hq6, hg6⟩
    obtain ⟨lb, rfl, hlb⟩ := mkPaths (hs6 (by decide))
    have HLB := Lib.hid hlb
    have bk6 := BK5.out.by hg6 (by have := HKG.out; simp; omega)
    have rb6 := HRB5.out.by hg6 (by have := HGLT.out; simp; omega)
    have c0 := bk6.cell 0 rfl; have c1 := bk6.cell 1 rfl; have c2 := bk6.cell 2 rfl
    have x0 := bk6.free 0; have x1 := bk6.free 1; have x2 := bk6.free 2
    have o7 := (Only.refl kb w6).set 1 (.string (st lb))
    have bk7 := bk6.set 1 (.string (st lb))
    have rb7 := rb6.other o7 (by have := HKG.out; omega)
    obtain ⟨w7, hw7⟩ : ∃ w7, w7 = w6.setCell ⟨kb, 1, none⟩ (.string (st lb)) := ⟨_, rfl⟩
    rw [← hw7] at o7 bk7 rb7
    have bk7' : Blk w7 kb 29 #[.int .i64 3, .string (st lb), .string ⟨#[]⟩] := bk7
    have HF : Hid (Tq w0 w7 g n ∧ Gr g w w7 ∧ Blk w7 w.heap.size 29 #[.int .i64 0, .string ⟨#[]⟩, .string ⟨#[]⟩]) := Lib.hid ⟨hq6.only o7 (by have := HKG.out; have := HGE.out; omega) (by have := HKG.out; omega), (HG5.out.trans hg6).by (Only.gr o7) (fun r hr => by injection hr with hr; have := HKG.out; omega), rb7⟩
    have C0 := Lib.hid (bk7'.cell 0 rfl); have C1 := Lib.hid (bk7'.cell 1 rfl); have C2 := Lib.hid (bk7'.cell 2 rfl)
    have HW7 := Lib.hid hw7
    clear hs6 hq6 hg6 hlb bk6 rb6 o7 bk7 bk7' rb7 hw7
    have d0 := HF.out.2.2.cell 0 rfl; have d1 := HF.out.2.2.cell 1 rfl; have d2 := HF.out.2.2.cell 2 rfl
    have f0 := HF.out.2.2.free 0; have f1 := HF.out.2.2.free 1; have f2 := HF.out.2.2.free 2
    have C0 := C0.out; have C1 := C1.out; have C2 := C2.out
    rw [HW7.out] at d0 d1 d2 f0 f1 f2 C0 C1 C2
    go_wp2_with fail
    rw [← HW7.out]
    exact FIN.out w7 (3, lb, []) _ HF.out.2.2 HF.out.1 HF.out.2.1 ⟨⟨HLB.out.2.1, Lt.nil⟩, by have := HLB.out.2.2; show lb.length ≤ 1000; omega, by simp⟩ (by simp [chkK, HLB.out.1]) rfl rfl
  · obtain ⟨w4, hw4⟩ : ∃ w4, w4 = w3.alloc (.cells #[.int .i64 4, .string (st la), .string ⟨#[]⟩] 29) := ⟨_, rfl⟩
    have HW4 := Lib.hid hw4
    have hk4 : Kp w3 w4 := by rw [hw4]; exact kp_alloc _ _
    have bk : Blk w4 kb 29 #[.int .i64 4, .string (st la), .string ⟨#[]⟩] := by rw [hw4, HKB.out]; exact Blk.new _ _ _
    have BK := Lib.hid bk
    have HQ4 := Lib.hid (HQ3.out.keep hk4)
    have HG4 := Lib.hid (HG3.out.trans (hk4.gr g))
    have HRB4 := Lib.hid (HRB3.out.keep hk4)
    have c0 := bk.cell 0 rfl; have c1 := bk.cell 1 rfl; have c2 := bk.cell 2 rfl
    have HFN := Lib.hid (Paths_q g w4 HQ4.out.lt)
    clear hw4 hk4 bk
    go_wp2_with fail
    rw [← HW4.out, ← HKB.out]
    refine HFN.out.mono ?_
    rintro e w5 ⟨v5, rfl, hp5, hk5⟩
    have HQ5 := Lib.hid (HQ4.out.keep hk5)
    have HG5 := Lib.hid (HG4.out.trans (hk5.gr g))
    have HRB5 := Lib.hid (HRB4.out.keep hk5)
    have BK5 := Lib.hid (BK.out.keep hk5)
    have HON2 := Lib.hid (One_q (n := n) HQ5.out hp5)
    obtain ⟨_, _, rfl, -, -⟩ := hp5.ex
    clear hp5 hk5 c0 c1 c2
    go_wp2_with fail
    refine HON2.out.mono ?_
    rintro e w6 ⟨⟨s6, rfl, -, hs6⟩, hq6, hg6⟩
    obtain ⟨lb, rfl, hlb⟩ := mkPaths (hs6 (by decide))
    have HLB := Lib.hid hlb
    have bk6 := BK5.out.by hg6 (by have := HKG.out; simp; omega)
    have rb6 := HRB5.out.by hg6 (by have := HGLT.out; simp; omega)
    have c0 := bk6.cell 0 rfl; have c1 := bk6.cell 1 rfl; have c2 := bk6.cell 2 rfl
    have x0 := bk6.free 0; have x1 := bk6.free 1; have x2 := bk6.free 2
    have o7 := (Only.refl kb w6).set 1 (.string (st lb))
    have bk7 := bk6.set 1 (.string (st lb))
    have rb7 := rb6.other o7 (by have := HKG.out; omega)
    obtain ⟨w7, hw7⟩ : ∃ w7, w7 = w6.setCell ⟨kb, 1, none⟩ (.string (st lb)) := ⟨_, rfl⟩
    rw [← hw7] at o7 bk7 rb7
    have bk7' : Blk w7 kb 29 #[.int .i64 4, .string (st lb), .string ⟨#[]⟩] := bk7
    have HF : Hid (Tq w0 w7 g n ∧ Gr g w w7 ∧ Blk w7 w.heap.size 29 #[.int .i64 0, .string ⟨#[]⟩, .string ⟨#[]⟩]) := Lib.hid ⟨hq6.only o7 (by have := HKG.out; have := HGE.out; omega) (by have := HKG.out; omega), (HG5.out.trans hg6).by (Only.gr o7) (fun r hr => by injection hr with hr; have := HKG.out; omega), rb7⟩
    have C0 := Lib.hid (bk7'.cell 0 rfl); have C1 := Lib.hid (bk7'.cell 1 rfl); have C2 := Lib.hid (bk7'.cell 2 rfl)
    have HW7 := Lib.hid hw7
    clear hs6 hq6 hg6 hlb bk6 rb6 o7 bk7 bk7' rb7 hw7
    have d0 := HF.out.2.2.cell 0 rfl; have d1 := HF.out.2.2.cell 1 rfl; have d2 := HF.out.2.2.cell 2 rfl
    have f0 := HF.out.2.2.free 0; have f1 := HF.out.2.2.free 1; have f2 := HF.out.2.2.free 2
    have C0 := C0.out; have C1 := C1.out; have C2 := C2.out
    rw [HW7.out] at d0 d1 d2 f0 f1 f2 C0 C1 C2
    go_wp2_with fail
    rw [← HW7.out]
    exact FIN.out w7 (4, lb, []) _ HF.out.2.2 HF.out.1 HF.out.2.1 ⟨⟨HLB.out.2.1, Lt.nil⟩, by have := HLB.out.2.2; show lb.length ≤ 1000; omega, by simp⟩ (by simp [chkK, HLB.out.1]) rfl rfl
  · obtain ⟨w4, hw4⟩ : ∃ w4, w4 = w3.alloc (.cells #[.int .i64 5, .string (st la), .string ⟨#[]⟩] 29) := ⟨_, rfl⟩
    have HW4 := Lib.hid hw4
    have hk4 : Kp w3 w4 := by rw [hw4]; exact kp_alloc _ _
    have bk : Blk w4 kb 29 #[.int .i64 5, .string (st la), .string ⟨#[]⟩] := by rw [hw4, HKB.out]; exact Blk.new _ _ _
    have BK := Lib.hid bk
    have HQ4 := Lib.hid (HQ3.out.keep hk4)
    have HG4 := Lib.hid (HG3.out.trans (hk4.gr g))
    have HRB4 := Lib.hid (HRB3.out.keep hk4)
    have c0 := bk.cell 0 rfl; have c1 := bk.cell 1 rfl; have c2 := bk.cell 2 rfl
    have HFN := Lib.hid (Variables_q g w4 HQ4.out.lt)
    clear hw4 hk4 bk
    go_wp2_with fail
    rw [← HW4.out, ← HKB.out]
    refine HFN.out.mono ?_
    rintro e w5 ⟨v5, rfl, hp5, hk5⟩
    have HQ5 := Lib.hid (HQ4.out.keep hk5)
    have HG5 := Lib.hid (HG4.out.trans (hk5.gr g))
    have HRB5 := Lib.hid (HRB4.out.keep hk5)
    have BK5 := Lib.hid (BK.out.keep hk5)
    have HON2 := Lib.hid (One_q (n := n) HQ5.out hp5)
    obtain ⟨_, _, rfl, -, -⟩ := hp5.ex
    clear hp5 hk5 c0 c1 c2
    go_wp2_with fail
    refine HON2.out.mono ?_
    rintro e w6 ⟨⟨s6, rfl, -, hs6⟩, hq6, hg6⟩
    obtain ⟨lb, rfl, hlb⟩ := mkVariables (hs6 (by decide))
    have HLB := Lib.hid hlb
    have bk6 := BK5.out.by hg6 (by have := HKG.out; simp; omega)
    have rb6 := HRB5.out.by hg6 (by have := HGLT.out; simp; omega)
    have c0 := bk6.cell 0 rfl; have c1 := bk6.cell 1 rfl; have c2 := bk6.cell 2 rfl
    have x0 := bk6.free 0; have x1 := bk6.free 1; have x2 := bk6.free 2
    have o7 := (Only.refl kb w6).set 1 (.string (st lb))
    have bk7 := bk6.set 1 (.string (st lb))
    have rb7 := rb6.other o7 (by have := HKG.out; omega)
    obtain ⟨w7, hw7⟩ : ∃ w7, w7 = w6.setCell ⟨kb, 1, none⟩ (.string (st lb)) := ⟨_, rfl⟩
    rw [← hw7] at o7 bk7 rb7
    have bk7' : Blk w7 kb 29 #[.int .i64 5, .string (st lb), .string ⟨#[]⟩] := bk7
    have HF : Hid (Tq w0 w7 g n ∧ Gr g w w7 ∧ Blk w7 w.heap.size 29 #[.int .i64 0, .string ⟨#[]⟩, .string ⟨#[]⟩]) := Lib.hid ⟨hq6.only o7 (by have := HKG.out; have := HGE.out; omega) (by have := HKG.out; omega), (HG5.out.trans hg6).by (Only.gr o7) (fun r hr => by injection hr with hr; have := HKG.out; omega), rb7⟩
    have C0 := Lib.hid (bk7'.cell 0 rfl); have C1 := Lib.hid (bk7'.cell 1 rfl); have C2 := Lib.hid (bk7'.cell 2 rfl)
    have HW7 := Lib.hid hw7
    clear hs6 hq6 hg6 hlb bk6 rb6 o7 bk7 bk7' rb7 hw7
    have d0 := HF.out.2.2.cell 0 rfl; have d1 := HF.out.2.2.cell 1 rfl; have d2 := HF.out.2.2.cell 2 rfl
    have f0 := HF.out.2.2.free 0; have f1 := HF.out.2.2.free 1; have f2 := HF.out.2.2.free 2
    have C0 := C0.out; have C1 := C1.out; have C2 := C2.out
    rw [HW7.out] at d0 d1 d2 f0 f1 f2 C0 C1 C2
    go_wp2_with fail
    rw [← HW7.out]
    exact FIN.out w7 (5, lb, []) _ HF.out.2.2 HF.out.1 HF.out.2.1 ⟨⟨HLB.out.2.1, Lt.nil⟩, by have := HLB.out.2.2; show lb.length ≤ 1000; omega, by simp⟩ (by simp [chkK, HLB.out.1]) rfl rfl
  · obtain ⟨w4, hw4⟩ : ∃ w4, w4 = w3.alloc (.cells #[.int .i64 6, .string (st la), .string ⟨#[]⟩] 29) := ⟨_, rfl⟩
    have HW4 := Lib.hid hw4
    have hk4 : Kp w3 w4 := by rw [hw4]; exact kp_alloc _ _
    have bk : Blk w4 kb 29 #[.int .i64 6, .string (st la), .string ⟨#[]⟩] := by rw [hw4, HKB.out]; exact Blk.new _ _ _
    have BK := Lib.hid bk
    have HQ4 := Lib.hid (HQ3.out.keep hk4)
    have HG4 := Lib.hid (HG3.out.trans (hk4.gr g))
    have HRB4 := Lib.hid (HRB3.out.keep hk4)
    have c0 := bk.cell 0 rfl; have c1 := bk.cell 1 rfl; have c2 := bk.cell 2 rfl
    have rb4 := HRB4.out
    have d0 := rb4.cell 0 rfl; have d1 := rb4.cell 1 rfl; have d2 := rb4.cell 2 rfl
    have f0 := rb4.free 0; have f1 := rb4.free 1; have f2 := rb4.free 2
    rw [hw4, HKB.out] at c0 c1 c2
    rw [hw4] at d0 d1 d2 f0 f1 f2
    clear hw4 hk4 bk rb4
    go_wp2_with fail
    rw [← HW4.out]
    exact FIN.out w4 (6, la, []) _ HRB4.out (HQ4.out.less (by omega)) HG4.out ⟨⟨HLA.out.2.1, Lt.nil⟩, by have := HLA.out.2.2; show la.length ≤ 1000; omega, by simp⟩ (by simp [chkK, HLA.out.1]) rfl rfl
  · obtain ⟨w4, hw4⟩ : ∃ w4, w4 = w3.alloc (.cells #[.int .i64 7, .string (st la), .string ⟨#[]⟩] 29) := ⟨_, rfl⟩
    have HW4 := Lib.hid hw4
    have hk4 : Kp w3 w4 := by rw [hw4]; exact kp_alloc _ _
    have bk : Blk w4 kb 29 #[.int .i64 7, .string (st la), .string ⟨#[]⟩] := by rw [hw4, HKB.out]; exact Blk.new _ _ _
    have BK := Lib.hid bk
    have HQ4 := Lib.hid (HQ3.out.keep hk4)
    have HG4 := Lib.hid (HG3.out.trans (hk4.gr g))
    have HRB4 := Lib.hid (HRB3.out.keep hk4)
    have c0 := bk.cell 0 rfl; have c1 := bk.cell 1 rfl; have c2 := bk.cell 2 rfl
    have rb4 := HRB4.out
    have d0 := rb4.cell 0 rfl; have d1 := rb4.cell 1 rfl; have d2 := rb4.cell 2 rfl
    have f0 := rb4.free 0; have f1 := rb4.free 1; have f2 := rb4.free 2
    rw [hw4, HKB.out] at c0 c1 c2
    rw [hw4] at d0 d1 d2 f0 f1 f2
    clear hw4 hk4 bk rb4
    go_wp2_with fail
    rw [← HW4.out]
    exact FIN.out w4 (7, la, []) _ HRB4.out (HQ4.out.less (by omega)) HG4.out ⟨⟨HLA.out.2.1, Lt.nil⟩, by have := HLA.out.2.2; show la.length ≤ 1000; omega, by simp⟩ (by simp [chkK, HLA.out.1]) rfl rfl
end By
end Go.Proofs.YtpgnckjgclbepaaDoor
