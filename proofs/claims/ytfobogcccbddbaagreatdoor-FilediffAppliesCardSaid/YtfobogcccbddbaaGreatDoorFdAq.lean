/- The law on what changes make of a revision, and how they are undone: it returns true, and leaves what was there. Conditions: the program's functions answer as they should; the slices read as the integers, the files and the changes that are named; a package variable of the library holds some integer. -/
import Derived.Test.YtfobogcccbddbaaGreatDoorFdF
import Derived.Test.YtfobogcccbddbaaGreatDoorFdH
import Derived.Test.YtfobogcccbddbaaGreatDoorFdIv
namespace Go.Proofs.YtfobogcccbddbaaGreatDoor
namespace By
open Go.RowKit Go.Shelf WireN LexN RevN FdN
set_option linter.unusedVariables false
set_option linter.unusedSimpArgs false

theorem Cw.gr {w w' : World} {v : Value} {ks : List Ch} {g : Nat} (h : Cw w v ks) (hg : Gr g w w') (hne : ∀ b, v.ownBlock = some b → b ≠ g) : Cw w' v ks := by
  obtain ⟨⟨ao, cap, rfl, h1, h2, h3, h4⟩, h5⟩ := h
  refine ⟨⟨ao, cap, rfl, h1, h2, ?_, h4⟩, h5⟩
  rcases h3 with rfl | ⟨b, off, rfl, h3⟩
  · exact .inl rfl
  · exact .inr ⟨b, off, rfl, fun j x hj => ⟨cell_gr hg (h3 j x hj).1 (hne b rfl), cell_gr hg (h3 j x hj).2.1 (hne b rfl), cell_gr hg (h3 j x hj).2.2.1 (hne b rfl), cell_gr hg (h3 j x hj).2.2.2 (hne b rfl)⟩⟩
theorem Cw.take15 {w : World} {ao : Option Addr} {n cap : Nat} {ks : List Ch} (h : Cw w (.slice ao n cap) ks) (k : Nat) (hk : k ≤ n) : Cw w (.slice ao k cap) (ks.take k) := by
  obtain ⟨⟨ao', cap', e, h1, h2, h3, h4⟩, h5⟩ := h
  simp only [Value.slice.injEq] at e
  obtain ⟨rfl, rfl, rfl⟩ := e
  refine ⟨⟨ao, cap, by rw [List.length_take, Nat.min_eq_left hk], by rw [List.length_take]; omega, h2, ?_, h4⟩, fun x hx => h5 x (List.mem_of_mem_take hx)⟩
  rcases h3 with rfl | ⟨b, off, rfl, h3⟩
  · exact .inl (by simp)
  · refine .inr ⟨b, off, rfl, fun j x hx => ?_⟩
    rw [List.getElem?_take] at hx
    split at hx
    · exact h3 j x hx
    · cases hx
/-- What is there when a round begins. -/
structure AqI (wr W : World) (g n pa b5 : Nat) (va : Value) (fa : List Fl) (L : List (Value × List Ch)) : Prop where
  ba : Blk W pa 25 #[va]
  bl : Blk W b5 33 (L.map Prod.fst).toArray
  ra : Rw W va fa
  na : ∀ b, va.ownBlock = some b → b ≠ g
  ls : ∀ p ∈ L, (Cw wr p.1 p.2 ∨ (Cw W p.1 p.2 ∧ ∀ b, p.1.ownBlock = some b → b ≠ g)) ∧ p.2.length ≤ 200
  tq : Tq wr W g n
  n1 : pa ≠ g
  n2 : b5 ≠ g
theorem AqI.draw {wr W W' : World} {g n m pa b5 : Nat} {va : Value} {fa : List Fl} {L : List (Value × List Ch)} (h : AqI wr W g n pa b5 va fa L) (hg : Gr g W W') (ht : Tq wr W' g m) : AqI wr W' g m pa b5 va fa L :=
  ⟨h.ba.gr hg h.n1, h.bl.gr hg h.n2, h.ra.gr hg h.na, h.na, fun p hp => ⟨(h.ls p hp).1.imp id (fun ⟨h1, h2⟩ => ⟨h1.gr hg h2, h2⟩), (h.ls p hp).2⟩, ht, h.n1, h.n2⟩
theorem AqI.keep {wr W W' : World} {g n pa b5 : Nat} {va : Value} {fa : List Fl} {L : List (Value × List Ch)} (h : AqI wr W g n pa b5 va fa L) (hk : Kp W W') : AqI wr W' g n pa b5 va fa L := h.draw (hk.gr g) (h.tq.keep hk)
theorem AqI.less {wr W : World} {g n m pa b5 : Nat} {va : Value} {fa : List Fl} {L : List (Value × List Ch)} (h : AqI wr W g n pa b5 va fa L) (hm : m ≤ n) : AqI wr W g m pa b5 va fa L := ⟨h.ba, h.bl, h.ra, h.na, h.ls, h.tq.less hm, h.n1, h.n2⟩
theorem AqI.cw {wr W : World} {g n pa b5 : Nat} {va : Value} {fa : List Fl} {L : List (Value × List Ch)} (h : AqI wr W g n pa b5 va fa L) {k : Nat} {p : Value × List Ch} (hp : L[k]? = some p) : Cw W p.1 p.2 ∧ W.cell? ⟨b5, k, none⟩ = some p.1 ∧ p.2.length ≤ 200 := by
  have hm := h.ls p (List.mem_of_getElem? hp)
  refine ⟨?_, h.bl.cell k (by simp [hp]), hm.2⟩
  rcases hm.1 with h1 | ⟨h1, -⟩
  · exact h1.keep h.tq.base
  · exact h1
theorem AqI.set {wr W W' : World} {g n pa b5 p : Nat} {va : Value} {fa : List Fl} {L : List (Value × List Ch)} (h : AqI wr W g n pa b5 va fa L) (ho : Only p W W') (hw : wr.heap.size ≤ p) (hg : p ≠ g) (h1 : p ≠ pa) (h2 : p ≠ b5) (h3 : (fa ≠ [] → ∀ b, va.ownBlock = some b → b ≠ p) ∧ ∀ q ∈ L, q.2 ≠ [] → ∀ b, q.1.ownBlock = some b → b ≠ p) : AqI wr W' g n pa b5 va fa L := by
  refine ⟨h.ba.other ho (fun e => h1 e.symm), h.bl.other ho (fun e => h2 e.symm), h.ra.beside2 (Only.gr ho) h3.1, h.na, fun q hq => ⟨?_, (h.ls q hq).2⟩, h.tq.only ho hw (fun e => hg e.symm), h.n1, h.n2⟩
  refine (h.ls q hq).1.imp id (fun ⟨c1, c2⟩ => ⟨?_, c2⟩)
  obtain ⟨⟨ao, cap, e, k1, k2, k3, k4⟩, k5⟩ := c1
  refine ⟨⟨ao, cap, e, k1, k2, ?_, k4⟩, k5⟩
  rcases k3 with k3 | ⟨b, off, rfl, k3⟩
  · exact .inl k3
  · by_cases hq0 : q.2 = []
    · exact .inl hq0
    · have hb : b ≠ p := h3.2 q hq hq0 b (by rw [e]; rfl)
      exact .inr ⟨b, off, rfl, fun j x hj => ⟨cell_gr (Only.gr ho) (k3 j x hj).1 hb, cell_gr (Only.gr ho) (k3 j x hj).2.1 hb, cell_gr (Only.gr ho) (k3 j x hj).2.2.1 hb, cell_gr (Only.gr ho) (k3 j x hj).2.2.2 hb⟩⟩
/-- Memory that holds something is old. -/
theorem Cw.old15 {w : World} {v : Value} {ks : List Ch} (h : Cw w v ks) (hf : ks ≠ []) : ∀ b, v.ownBlock = some b → b < w.heap.size := by
  obtain ⟨⟨ao, cap, rfl, h1, h2, h3, h4⟩, h5⟩ := h
  intro b hb
  rcases h3 with rfl | ⟨b', off, rfl, h3⟩
  · exact absurd rfl hf
  · obtain ⟨f, fs', rfl⟩ := List.exists_cons_of_ne_nil hf
    have h := World.block_lt_of_cell? w _ (h3 0 f rfl).1
    have e : b' = b := Option.some.inj hb
    rw [← e]; exact h
theorem AqI.olds {wr W : World} {g n pa b5 : Nat} {va : Value} {fa : List Fl} {L : List (Value × List Ch)} (h : AqI wr W g n pa b5 va fa L) : (fa ≠ [] → ∀ b, va.ownBlock = some b → b ≠ W.heap.size) ∧ ∀ q ∈ L, q.2 ≠ [] → ∀ b, q.1.ownBlock = some b → b ≠ W.heap.size := by
  refine ⟨fun hf b hb => Nat.ne_of_lt (h.ra.old hf b hb), fun q hq hf b hb => ?_⟩
  rcases (h.ls q hq).1 with h1 | ⟨h1, -⟩
  · exact Nat.ne_of_lt ((h1.keep h.tq.base).old15 hf b hb)
  · exact Nat.ne_of_lt (h1.old15 hf b hb)
/-- What follows is walked once, whatever the order was. -/
theorem join15 {c : Code} {a : Act} {w : World} {Q : Exit → Act → World → Prop} (R : Exit → Act → World → Prop) (h : c.wp Tryz.prog R a w) (hr : ∀ e a' w', R e a' w' → Q e a' w') : c.wp Tryz.prog Q a w := wp_mono h hr
set_option maxRecDepth 100000 in
set_option maxHeartbeats 16000000 in
theorem fdApplies_any (HDC : DiffC) (HAC : ApplyC) (HIC : InvertC) {zs : List Int} {v vr vo : Value} {fr : List Fl} {odd : List Ch} {w : World} (hz : SlI w v zs) (hr : Rw w vr fr) (hodd : Cw w vo odd) (hol : odd.length ≤ 6) (hm : MX w) :
    Calls Tryz.prog 4 #[v, .agg #[vr], vo] w fun e w' => e = .returned (.bool true) ∧ Kp w w' := by
  obtain ⟨ra, rl, rc, hvr⟩ := hr.form
  subst hvr
  obtain ⟨Wr, hWr⟩ : ∃ W, W = w.alloc (.cells #[.slice ra rl rc] 25) := ⟨_, rfl⟩
  have kr : Kp w Wr := by rw [hWr]; exact kp_alloc _ _
  have hz' := hz.keep kr
  have brr : Blk Wr w.heap.size 25 #[.slice ra rl rc] := by rw [hWr]; exact Blk.new _ _ _
  have hodd' := hodd.keep kr
  obtain ⟨oa, oc, hov, hoc, -, -⟩ := hodd.open3
  obtain ⟨on, hon⟩ : ∃ n, n = odd.length := ⟨_, rfl⟩
  rw [← hon] at hov hoc hol
  subst hov
  have HOD := Lib.hid hodd'; have HON := Lib.hid hon
  have i6 : (on : Int) ≤ (6 : Int) := by omega
  obtain ⟨⟨ao, cap, rfl, hc, hmx, hat⟩, hlt, hsm⟩ := hz
  obtain ⟨len0, hlen⟩ : ∃ len, len = zs.length := ⟨_, rfl⟩
  rw [← hlen] at hz' ⊢
  obtain ⟨w1, hw1⟩ : ∃ w1, w1 = Wr.alloc (Obj.cells #[.slice ao len0 cap, .int .i64 0] 30) := ⟨_, rfl⟩
  have zr : Wr.heap.size = w.heap.size + 1 := by rw [hWr]; simp
  have htp : Tp Wr w1 (w.heap.size + 1) 0 := by
    rw [hw1, ← zr]
    exact ⟨⟨ao, len0, cap, zs, hz', Blk.new _ _ _⟩, Kp.alloc (Kp.refl _) _, Nat.le_refl _⟩
  have HZ1 : Hid (w1.heap.size = w.heap.size + 1 + 1) := Lib.hid (by rw [hw1]; simp [zr])
  have HTW := Lib.hid (two_q (n := 26) ⟨0, by omega, htp⟩)
  have HW1 : Hid (w1 = (w.alloc (.cells #[.slice ra rl rc] 25)).alloc (Obj.cells #[.slice ao len0 cap, .int .i64 0] 30)) := Lib.hid (by rw [hw1, hWr])
  have HM := Lib.hid hm; have HKR := Lib.hid kr
  have HRR := Lib.hid (hr.keep kr); have HBR := Lib.hid brr
  have HAP := Lib.hid HAC; have HIN := Lib.hid HIC; have HAW := Lib.hid (fun (W : World) (h : MX W) => awake15_any HDC HAC HIC h)
  clear hodd hodd' hon hoc hol hz' hc hmx hat hlt hsm hlen hw1 htp hm HDC HAC HIC hWr kr brr zr hr
  go_enter Tryz.func4, Tryz.ntmps4
  go_wp2_with fail
  rw [← HW1.out]
  refine HTW.out.mono ?_
  rintro e w2 ⟨va, vb, fa, fb, rfl, ⟨hra, hrb⟩, ⟨hea, heb⟩, ⟨hna, hnb⟩, hq, hg2⟩
  obtain ⟨aa, la, ca, hva⟩ := hra.form
  obtain ⟨ab, lb, cb, hvb⟩ := hrb.form
  subst hva hvb
  obtain ⟨Wa, hWa⟩ : ∃ W, W = w2.alloc (.cells #[.slice aa la ca] 25) := ⟨_, rfl⟩
  obtain ⟨W3, hW3⟩ : ∃ W, W = Wa.alloc (.cells #[.slice ab lb cb] 25) := ⟨_, rfl⟩
  have k3a : Kp w2 Wa := by rw [hWa]; exact kp_alloc _ _
  have k3b : Kp Wa W3 := by rw [hW3]; exact kp_alloc _ _
  have k3 := Kp.trans k3a k3b
  have hba : Blk W3 w2.heap.size 25 #[.slice aa la ca] := by refine Blk.keep ?_ k3b; rw [hWa]; exact Blk.new _ _ _
  have hbb : Blk W3 (w2.heap.size + 1) 25 #[.slice ab lb cb] := by
    have e : w2.heap.size + 1 = Wa.heap.size := by rw [hWa]; simp
    rw [e, hW3]; exact Blk.new _ _ _
  have hk03 := Kp.trans hq.base k3
  have HRA := Lib.hid (hra.keep k3); have HRB := Lib.hid (hrb.keep k3)
  have HRW := Lib.hid (HRR.out.keep hk03)
  have HK3 := Lib.hid (HKR.out.trans hk03)
  have HGN : Hid (w1.heap.size = w.heap.size + 1 + 1) := HZ1
  have hg1 := hg2.size
  have HBR2 := Lib.hid (HBR.out.keep hk03)
  have HTQ := Lib.hid (hq.keep k3)
  have HBA := Lib.hid hba; have HBB := Lib.hid hbb
  have hgl := HGN.out
  have HNA : Hid (∀ b, (Value.slice aa la ca).ownBlock = some b → b ≠ w.heap.size + 1) := Lib.hid (fun b hb => by have := hna b hb; omega)
  have HNB : Hid (∀ b, (Value.slice ab lb cb).ownBlock = some b → b ≠ w.heap.size + 1) := Lib.hid (fun b hb => by have := hnb b hb; omega)
  have HLA : Hid (fa.length ≤ 20 ∧ fb.length ≤ 20) := Lib.hid ⟨by have := hea.len; omega, by have := heb.len; omega⟩
  have HSZ : Hid (w.heap.size + 1 < w2.heap.size) := Lib.hid (by omega)
  obtain ⟨pa, hpa⟩ : ∃ b, b = w2.heap.size := ⟨_, rfl⟩
  obtain ⟨pb, hpb⟩ : ∃ b, b = w2.heap.size + 1 := ⟨_, rfl⟩
  have x0 := hba.cell 0 rfl; have x1 := hbb.cell 0 rfl
  rw [hW3, hWa] at x0 x1
  have HW3 : Hid (W3 = (w2.alloc (.cells #[.slice aa la ca] 25)).alloc (.cells #[.slice ab lb cb] 25)) := Lib.hid (by rw [hW3, hWa])
  have HPA := Lib.hid hpa; have HPB := Lib.hid hpb
  obtain ⟨g, hg⟩ : ∃ g, g = w.heap.size + 1 := ⟨_, rfl⟩
  have HG := Lib.hid hg
  rw [← hg] at HTQ HNA HNB HSZ
  rw [← hpa] at HBA HSZ
  rw [← hpb] at HBB
  clear hra hrb hea heb hna hnb hg2 hq hWa hW3 k3a k3b k3 hba hbb hk03 hg1 hgl hpa hpb hg
  go_wp2_with fail
  rw [← HW3.out, ← HPB.out, ← HPA.out, ← HG.out]
  have HQ1 : Hid (Tq Wr W3 g 26) := HTQ
  have HSC : Hid (∀ W, Gr g W3 W → W.cell? ⟨pa, 0, none⟩ = some (.slice aa la ca) ∧ W.cell? ⟨pb, 0, none⟩ = some (.slice ab lb cb)) := Lib.hid (fun W h => ⟨(HBA.out.gr h (by have := HSZ.out; omega)).cell 0 rfl, (HBB.out.gr h (by have h1 := HPB.out; have h2 := HPA.out; have := HSZ.out; omega)).cell 0 rfl⟩)
  clear x0 x1
  go_region_held3 (fun w' => w'.cell? ⟨pa, 0, none⟩ = some (.slice aa la ca) ∧ w'.cell? ⟨pb, 0, none⟩ = some (.slice ab lb cb))
    (first
      | exact HSC.out _ (Gr.refl _ _)
      | exact HSC.out _ ((kp_drew _).gr _)
      | exact HSC.out _ hgg5
      | exact HSC.out _ (hgg5.trans ((kp_alloc _ _).gr _))
      | exact HSC.out _ ((hgg5.trans ((kp_alloc _ _).gr _)).trans ((kp_drew _).gr _))
      | exact HSC.out _ hgg4
      | fail "no keep")
    (first
      | (go_at_call 13; refine (changes_q (n := 4) hq4 (HRB.out.gr hgg4 HNB.out) (HRA.out.gr hgg4 HNA.out) HLA.out.2 HLA.out.1).mono ?_; rintro e w5 ⟨u5, D5, rfl, hu5, hD5, hn5, hq5, hg5⟩; have hgg5 := hgg4.trans hg5; obtain ⟨a5, c5, hv5, -, -, -⟩ := hu5.open3; obtain ⟨n5, hm5⟩ : ∃ n, n = D5.length := ⟨_, rfl⟩; rw [← hm5] at hv5; subst hv5; have HM5 := Lib.hid hm5; clear hm5)
      | (go_at_call 13; refine (changes_q (n := 15) (HQ1.out.keep (kp_drew _)) (HRA.out.keep (kp_drew _)) (HRB.out.keep (kp_drew _)) HLA.out.1 HLA.out.2).mono ?_; rintro e w4 ⟨u4, D4, rfl, hu4, hD4, hn4, hq4, hg4⟩; have hgg4 := ((kp_drew W3).gr g).trans hg4; obtain ⟨a4, c4, hv4, -, -, -⟩ := hu4.open3; obtain ⟨n4, hm4⟩ : ∃ n, n = D4.length := ⟨_, rfl⟩; rw [← hm4] at hv4; subst hv4; have HM4 := Lib.hid hm4; clear hm4)
      | fail "no arm")
  obtain ⟨W5, hW5⟩ : ∃ W, W = w5.alloc (.cells #[.slice a4 n4 c4, .slice a5 n5 c5, .slice oa on oc] 33) := ⟨_, rfl⟩
  have k5 : Kp w5 W5 := by rw [hW5]; exact kp_alloc _ _
  obtain ⟨b5, hb5⟩ : ∃ b, b = w5.heap.size := ⟨_, rfl⟩
  have hgl3 : g < W3.heap.size := HTQ.out.lt
  have hI5 : AqI Wr W5 g 4 pa b5 (.slice aa la ca) fa [(.slice a4 n4 c4, D4), (.slice a5 n5 c5, D5), (.slice oa on oc, odd)] := by
    have hs4 : W3.heap.size ≤ w4.heap.size := hgg4.size
    have hs5 : w4.heap.size ≤ w5.heap.size := hg5.size
    refine ⟨(HBA.out.gr hgg5 (by have := HSZ.out; omega)).keep k5, by rw [hW5, hb5]; exact Blk.new _ _ _, (HRA.out.gr hgg5 HNA.out).keep k5, HNA.out, fun p hp => ?_, hq5.keep k5, by have := HSZ.out; omega, by omega⟩
    simp only [List.mem_cons, List.not_mem_nil, or_false] at hp
    rcases hp with rfl | rfl | rfl
    · exact ⟨.inr ⟨(hu4.gr hg5 (fun b hb => by have h1 := hn4 b hb; have h2 : W3.drew.heap.size = W3.heap.size := rfl; omega)).keep k5, fun b hb => by have h1 := hn4 b hb; have h2 : W3.drew.heap.size = W3.heap.size := rfl; omega⟩, Nat.le_trans hD4 (by decide)⟩
    · exact ⟨.inr ⟨hu5.keep k5, fun b hb => by have h1 := hn5 b hb; omega⟩, Nat.le_trans hD5 (by decide)⟩
    · exact ⟨.inl HOD.out, by show odd.length ≤ 200; have := HON.out; omega⟩
  have HI5 := Lib.hid hI5
  have HW5 := Lib.hid hW5; have HB5 := Lib.hid hb5
  obtain ⟨L, hL⟩ : ∃ L, L = [((.slice a4 n4 c4 : Value), D4), (.slice a5 n5 c5, D5), (.slice oa on oc, odd)] := ⟨_, rfl⟩
  have HLL : Hid (L.length = 3) := Lib.hid (by rw [hL]; rfl)
  rw [← hL] at HI5
  have HMX : Hid (∀ W, Kp Wr W → MX W) := Lib.hid (fun W h => HM.out.keep (HKR.out.trans h))
  obtain ⟨p4, hp4⟩ : ∃ b, b = w.heap.size := ⟨_, rfl⟩
  have HP4 := Lib.hid hp4
  rw [← hp4] at HBR
  clear hu4 hD4 hn4 hq4 hg4 hgg4 hu5 hD5 hn5 hq5 hg5 hgg5 hW5 k5 hb5 hgl3 hI5 hL hp4 HQ1 HSC HTQ HBA HBB HBR2
  (try clear hS)
  rw [← HW5.out, ← HB5.out, ← HP4.out]
  go_wp2_with fail
  go_loopw [43] (fun i wr => ∃ k : Nat, i = .int .i64 (k : Nat) ∧ k ≤ 3 ∧ AqI Wr wr g (3 - k) pa b5 (.slice aa la ca) fa L) (fun i _ => 3 - (intOf i).toNat)
  case atStart => exact ⟨0, rfl, Nat.zero_le _, HI5.out.less (by omega)⟩
  case round =>
    obtain ⟨k, rfl, hk, hI⟩ := hrel
    rename World => wy
    have HI := Lib.hid hI
    by_cases hk3 : k < 3
    · obtain ⟨⟨u, D⟩, hp⟩ : ∃ p, L[k]? = some p := ⟨_, List.getElem?_eq_getElem (by have := HLL.out; omega)⟩
      obtain ⟨hcw, hcl, hdl⟩ := hI.cw hp
      simp only at hcw hcl hdl
      have HPK := Lib.hid hp
      obtain ⟨ux, uc, hux, -, -, -⟩ := hcw.open3
      obtain ⟨ul, hul⟩ : ∃ n, n = D.length := ⟨_, rfl⟩
      rw [← hul] at hux
      subst hux
      have HDL := Lib.hid hdl
      have HUC : Hid (∀ W, AqI Wr W g 0 pa b5 (.slice aa la ca) fa L → Cw W (.slice ux ul uc) D) := Lib.hid (fun W h => (h.cw HPK.out).1)
      have x0 := hI.ba.cell 0 rfl
      have i0 : (0 : Int) ≤ (k : Int) := by omega
      have i1 : (k : Int) < (3 : Int) := by omega
      obtain ⟨W6, hW6⟩ : ∃ W, W = wy.alloc (.cells #[.slice aa la ca] 25) := ⟨_, rfl⟩
      obtain ⟨p12, hp12⟩ : ∃ b, b = wy.heap.size := ⟨_, rfl⟩
      have k6 : Kp wy W6 := by rw [hW6]; exact kp_alloc _ _
      have B6 : Hid (Blk W6 p12 25 #[.slice aa la ca]) := Lib.hid (by rw [hW6, hp12]; exact Blk.new _ _ _)
      have HI6 := Lib.hid (hI.keep k6)
      have HNL : Hid ((fa ≠ [] → ∀ b, (Value.slice aa la ca).ownBlock = some b → b ≠ p12) ∧ ∀ q ∈ L, q.2 ≠ [] → ∀ b, q.1.ownBlock = some b → b ≠ p12) := Lib.hid (by rw [hp12]; exact hI.olds)
      have HGP : Hid (p12 ≠ g) := Lib.hid (by have := hI.tq.lt; omega)
      have HPB4 : Hid (p12 ≠ pa ∧ p12 ≠ b5) := Lib.hid (by have h1 := hI.ba.lt; have h2 := hI.bl.lt; omega)
      have HPW : Hid (Wr.heap.size ≤ p12) := Lib.hid (by have := hI.tq.base.size; omega)
      have HW6 := Lib.hid hW6; have HP12 := Lib.hid hp12
      clear hI hcw hp hul hdl hW6 hp12 k6
      by_cases hk2 : k = 2
      · have q2 : ((k : Int) == 2) = true := beq_iff_eq.2 (by omega)
        have HK2 := Lib.hid hk2
        have HCH := Lib.hid (Chance_q (n := 3 - (k + 1)) (HI6.out.less (m := 3 - (k + 1) + 1) (by omega)).tq 1 2 (by omega) (by omega))
        clear hk2
        go_wp2_with fail
        rw [← HW6.out, ← HP12.out]
        refine HCH.out.mono ?_
        rintro e w7 ⟨⟨c, rfl⟩, hq7, hg7⟩
        have HI7 := Lib.hid (HI6.out.draw hg7 hq7)
        have B7 := Lib.hid (B6.out.gr hg7 HGP.out)
        clear hq7 hg7 x0 hcl hk
        cases c with
        | false =>
          have HR7 : Hid (Rw w7 (.slice aa la ca) fa) := Lib.hid HI7.out.ra
          obtain ⟨W7, hW7⟩ : ∃ W, W = w7 := ⟨_, rfl⟩
          subst hW7
          have HCW := Lib.hid (HUC.out W7 (HI7.out.less (Nat.zero_le _)))
          have HKW := Lib.hid HI7.out.tq.base
          have HA1 := Lib.hid (HAP.out W7 _ _ fa D (HMX.out W7 HKW.out) HR7.out HCW.out HDL.out)
          have x0 := B7.out.cell 0 rfl
          go_wp2_with fail
          refine HA1.out.mono ?_
          rintro e w8 ⟨v8, rfl, hr8, -, hk8⟩
          obtain ⟨a8, l8, c8, hv8⟩ := hr8.form
          subst hv8
          obtain ⟨E, hE⟩ : ∃ E, E = (aplA fa D).1 := ⟨_, rfl⟩
          rw [← hE]
          have HEQ := Lib.hid hE
          obtain ⟨W9, hW9⟩ : ∃ W, W = w8.alloc (.cells #[.slice a8 l8 c8] 25) := ⟨_, rfl⟩
          have k9 : Kp w8 W9 := by rw [hW9]; exact kp_alloc _ _
          obtain ⟨p13, hp13⟩ : ∃ b, b = w8.heap.size := ⟨_, rfl⟩
          have B9 : Hid (Blk W9 p13 25 #[.slice a8 l8 c8]) := Lib.hid (by rw [hW9, hp13]; exact Blk.new _ _ _)
          have K9 := Lib.hid (hk8.trans k9)
          have R9 := Lib.hid (hr8.keep k9)
          have HA2 := Lib.hid (rApply_any (HR7.out.keep K9.out) (HCW.out.keep K9.out) HDL.out)
          have x0 := (B7.out.keep K9.out).cell 0 rfl
          rw [hW9] at x0
          have HW9 := Lib.hid hW9; have HP13 := Lib.hid hp13
          clear hr8 hk8 hE hW9 k9 hp13
          go_wp2_with fail
          rw [← HW9.out, ← HP13.out]
          refine HA2.out.mono ?_
          rintro e w10 ⟨v10, rfl, hr10, -, hk10⟩
          obtain ⟨a10, l10, c10, hv10⟩ := hr10.form
          subst hv10
          rw [← HEQ.out]
          obtain ⟨W11, hW11⟩ : ∃ W, W = w10.alloc (.cells #[.slice a10 l10 c10] 25) := ⟨_, rfl⟩
          have k11 : Kp w10 W11 := by rw [hW11]; exact kp_alloc _ _
          obtain ⟨p15, hp15⟩ : ∃ b, b = w10.heap.size := ⟨_, rfl⟩
          have b11 : Blk W11 p15 25 #[.slice a10 l10 c10] := by rw [hW11, hp15]; exact Blk.new _ _ _
          have K11 := Lib.hid (K9.out.trans (hk10.trans k11))
          have hsm := rSame_any (R9.out.keep (hk10.trans k11)) (hr10.keep k11)
          rw [decide_eq_true rfl] at hsm
          have HSM := Lib.hid hsm
          have x1 := (B9.out.keep (hk10.trans k11)).cell 0 rfl
          have x2 := b11.cell 0 rfl
          rw [hW11] at x1 x2
          rw [hp15] at x2
          have HW11 := Lib.hid hW11; have HP15 := Lib.hid hp15
          have q3 : ((E : Int) != (E : Int)) = false := by simp
          clear hr10 hk10 hW11 k11 hp15 b11 hsm x0
          go_wp2_with fail
          rw [← HW11.out]
          refine HSM.out.mono ?_
          rintro e w12 ⟨rfl, hk12⟩
          have K12 := Lib.hid (K11.out.trans hk12)
          have HA3 := Lib.hid (HIN.out w12 _ _ fa D (HMX.out w12 (HKW.out.trans K12.out)) (HR7.out.keep K12.out) (HCW.out.keep K12.out) HDL.out)
          have x0 := (B7.out.keep K12.out).cell 0 rfl
          clear hk12 x1 x2 q3
          go_wp2_with fail
          refine HA3.out.mono ?_
          rintro e w13 ⟨u13, rfl, hu13, -, hk13⟩
          obtain ⟨a13, c13, hv13, -, -, -⟩ := hu13.open3
          obtain ⟨E2, hE2⟩ : ∃ E, E = (invA fa D).1 := ⟨_, rfl⟩
          obtain ⟨D2, hD2⟩ : ∃ E, E = (invA fa D).2 := ⟨_, rfl⟩
          rw [← hD2] at hu13 hv13
          rw [← hE2]
          obtain ⟨n2, hn2⟩ : ∃ n, n = D2.length := ⟨_, rfl⟩
          rw [← hn2] at hv13
          subst hv13
          have K13 := Lib.hid (K12.out.trans hk13)
          have HU13 := Lib.hid hu13; have HE2 := Lib.hid hE2; have HD2 := Lib.hid hD2; have HN2 := Lib.hid hn2
          have HA4 := Lib.hid (rInvert_any (HR7.out.keep K13.out) (HCW.out.keep K13.out) HDL.out)
          have x0 := (B7.out.keep K13.out).cell 0 rfl
          clear hu13 hk13 hE2 hD2 hn2
          go_wp2_with fail
          refine HA4.out.mono ?_
          rintro e w14 ⟨u14, rfl, hu14, -, hk14⟩
          obtain ⟨a14, c14, hv14, -, -, -⟩ := hu14.open3
          rw [← HD2.out] at hu14 hv14
          rw [← HN2.out] at hv14
          rw [← HE2.out]
          subst hv14
          have K14 := Lib.hid (K13.out.trans hk14)
          have hs := SameC_any (HU13.out.keep hk14) hu14 (by rw [HD2.out]; exact invA_most _ _) (by rw [HD2.out]; exact invA_most _ _)
          rw [decide_eq_true rfl] at hs
          have HS := Lib.hid hs
          have q4 : ((E2 : Int) != (E2 : Int)) = false := by simp
          clear hu14 hk14 hs x0
          go_wp2_with fail
          refine HS.out.mono ?_
          rintro e w15 ⟨rfl, hk15⟩
          have HI15 := Lib.hid (HI7.out.keep (K14.out.trans hk15))
          clear hk15 q4
          go_wp2_with fail
          go_roundw
          case rel => exact ⟨k + 1, by go_num, by omega, HI15.out⟩
          case measure => (first | (simp [intOf]; omega) | simp [intOf])
        | true =>
          have y0 := (HBR.out.keep HI7.out.tq.base).cell 0 rfl
          have y1 := B7.out.cell 0 rfl; have y2 := B7.out.free 0
          obtain ⟨W7, hW7⟩ : ∃ W, W = w7.setCell ⟨p12, 0, none⟩ (.slice ra rl rc) := ⟨_, rfl⟩
          have o7 : Only p12 w7 W7 := by rw [hW7]; exact (Only.refl _ _).set 0 _
          have hi7 : AqI Wr W7 g (3 - (k + 1)) pa b5 (.slice aa la ca) fa L := by
            exact HI7.out.set o7 HPW.out HGP.out HPB4.out.1 HPB4.out.2 HNL.out
          have HR7 : Hid (Rw W7 (.slice ra rl rc) fr) := Lib.hid (HRR.out.keep hi7.tq.base)
          have B7' : Hid (Blk W7 p12 25 #[.slice ra rl rc]) := Lib.hid (by rw [hW7]; exact B7.out.set 0 _)
          have HI7' := Lib.hid hi7
          have HW7 := Lib.hid hW7
          clear hW7 o7 hi7
          go_wp2_with fail
          rw [← HW7.out]
          have HCW := Lib.hid (HUC.out W7 (HI7'.out.less (Nat.zero_le _)))
          have HKW := Lib.hid HI7'.out.tq.base
          have HA1 := Lib.hid (HAP.out W7 _ _ fr D (HMX.out W7 HKW.out) HR7.out HCW.out HDL.out)
          have x0 := B7'.out.cell 0 rfl
          go_wp2_with fail
          refine HA1.out.mono ?_
          rintro e w8 ⟨v8, rfl, hr8, -, hk8⟩
          obtain ⟨a8, l8, c8, hv8⟩ := hr8.form
          subst hv8
          obtain ⟨E, hE⟩ : ∃ E, E = (aplA fr D).1 := ⟨_, rfl⟩
          rw [← hE]
          have HEQ := Lib.hid hE
          obtain ⟨W9, hW9⟩ : ∃ W, W = w8.alloc (.cells #[.slice a8 l8 c8] 25) := ⟨_, rfl⟩
          have k9 : Kp w8 W9 := by rw [hW9]; exact kp_alloc _ _
          obtain ⟨p13, hp13⟩ : ∃ b, b = w8.heap.size := ⟨_, rfl⟩
          have B9 : Hid (Blk W9 p13 25 #[.slice a8 l8 c8]) := Lib.hid (by rw [hW9, hp13]; exact Blk.new _ _ _)
          have K9 := Lib.hid (hk8.trans k9)
          have R9 := Lib.hid (hr8.keep k9)
          have HA2 := Lib.hid (rApply_any (HR7.out.keep K9.out) (HCW.out.keep K9.out) HDL.out)
          have x0 := (B7'.out.keep K9.out).cell 0 rfl
          rw [hW9] at x0
          have HW9 := Lib.hid hW9; have HP13 := Lib.hid hp13
          clear hr8 hk8 hE hW9 k9 hp13
          go_wp2_with fail
          rw [← HW9.out, ← HP13.out]
          refine HA2.out.mono ?_
          rintro e w10 ⟨v10, rfl, hr10, -, hk10⟩
          obtain ⟨a10, l10, c10, hv10⟩ := hr10.form
          subst hv10
          rw [← HEQ.out]
          obtain ⟨W11, hW11⟩ : ∃ W, W = w10.alloc (.cells #[.slice a10 l10 c10] 25) := ⟨_, rfl⟩
          have k11 : Kp w10 W11 := by rw [hW11]; exact kp_alloc _ _
          obtain ⟨p15, hp15⟩ : ∃ b, b = w10.heap.size := ⟨_, rfl⟩
          have b11 : Blk W11 p15 25 #[.slice a10 l10 c10] := by rw [hW11, hp15]; exact Blk.new _ _ _
          have K11 := Lib.hid (K9.out.trans (hk10.trans k11))
          have hsm := rSame_any (R9.out.keep (hk10.trans k11)) (hr10.keep k11)
          rw [decide_eq_true rfl] at hsm
          have HSM := Lib.hid hsm
          have x1 := (B9.out.keep (hk10.trans k11)).cell 0 rfl
          have x2 := b11.cell 0 rfl
          rw [hW11] at x1 x2
          rw [hp15] at x2
          have HW11 := Lib.hid hW11; have HP15 := Lib.hid hp15
          have q3 : ((E : Int) != (E : Int)) = false := by simp
          clear hr10 hk10 hW11 k11 hp15 b11 hsm x0
          go_wp2_with fail
          rw [← HW11.out]
          refine HSM.out.mono ?_
          rintro e w12 ⟨rfl, hk12⟩
          have K12 := Lib.hid (K11.out.trans hk12)
          have HA3 := Lib.hid (HIN.out w12 _ _ fr D (HMX.out w12 (HKW.out.trans K12.out)) (HR7.out.keep K12.out) (HCW.out.keep K12.out) HDL.out)
          have x0 := (B7'.out.keep K12.out).cell 0 rfl
          clear hk12 x1 x2 q3
          go_wp2_with fail
          refine HA3.out.mono ?_
          rintro e w13 ⟨u13, rfl, hu13, -, hk13⟩
          obtain ⟨a13, c13, hv13, -, -, -⟩ := hu13.open3
          obtain ⟨E2, hE2⟩ : ∃ E, E = (invA fr D).1 := ⟨_, rfl⟩
          obtain ⟨D2, hD2⟩ : ∃ E, E = (invA fr D).2 := ⟨_, rfl⟩
          rw [← hD2] at hu13 hv13
          rw [← hE2]
          obtain ⟨n2, hn2⟩ : ∃ n, n = D2.length := ⟨_, rfl⟩
          rw [← hn2] at hv13
          subst hv13
          have K13 := Lib.hid (K12.out.trans hk13)
          have HU13 := Lib.hid hu13; have HE2 := Lib.hid hE2; have HD2 := Lib.hid hD2; have HN2 := Lib.hid hn2
          have HA4 := Lib.hid (rInvert_any (HR7.out.keep K13.out) (HCW.out.keep K13.out) HDL.out)
          have x0 := (B7'.out.keep K13.out).cell 0 rfl
          clear hu13 hk13 hE2 hD2 hn2
          go_wp2_with fail
          refine HA4.out.mono ?_
          rintro e w14 ⟨u14, rfl, hu14, -, hk14⟩
          obtain ⟨a14, c14, hv14, -, -, -⟩ := hu14.open3
          rw [← HD2.out] at hu14 hv14
          rw [← HN2.out] at hv14
          rw [← HE2.out]
          subst hv14
          have K14 := Lib.hid (K13.out.trans hk14)
          have hs := SameC_any (HU13.out.keep hk14) hu14 (by rw [HD2.out]; exact invA_most _ _) (by rw [HD2.out]; exact invA_most _ _)
          rw [decide_eq_true rfl] at hs
          have HS := Lib.hid hs
          have q4 : ((E2 : Int) != (E2 : Int)) = false := by simp
          clear hu14 hk14 hs x0
          go_wp2_with fail
          refine HS.out.mono ?_
          rintro e w15 ⟨rfl, hk15⟩
          have HI15 := Lib.hid (HI7'.out.keep (K14.out.trans hk15))
          clear hk15 q4
          go_wp2_with fail
          go_roundw
          case rel => exact ⟨k + 1, by go_num, by omega, HI15.out⟩
          case measure => (first | (simp [intOf]; omega) | simp [intOf])
      · have q2 : ((k : Int) == 2) = false := beq_eq_false_iff_ne.2 (by omega)
        have HI7 := Lib.hid (HI6.out.less (m := 3 - (k + 1)) (by omega))
        have HR7 : Hid (Rw W6 (.slice aa la ca) fa) := Lib.hid HI7.out.ra
        have B7 := B6
        clear hk2 hk
        go_wp2_with fail
        rw [← HW6.out, ← HP12.out]
        obtain ⟨W7, hW7⟩ : ∃ W, W = W6 := ⟨_, rfl⟩
        subst hW7
        clear hcl
        have HCW := Lib.hid (HUC.out W7 (HI7.out.less (Nat.zero_le _)))
        have HKW := Lib.hid HI7.out.tq.base
        have HA1 := Lib.hid (HAP.out W7 _ _ fa D (HMX.out W7 HKW.out) HR7.out HCW.out HDL.out)
        have x0 := B7.out.cell 0 rfl
        go_wp2_with fail
        refine HA1.out.mono ?_
        rintro e w8 ⟨v8, rfl, hr8, -, hk8⟩
        obtain ⟨a8, l8, c8, hv8⟩ := hr8.form
        subst hv8
        obtain ⟨E, hE⟩ : ∃ E, E = (aplA fa D).1 := ⟨_, rfl⟩
        rw [← hE]
        have HEQ := Lib.hid hE
        obtain ⟨W9, hW9⟩ : ∃ W, W = w8.alloc (.cells #[.slice a8 l8 c8] 25) := ⟨_, rfl⟩
        have k9 : Kp w8 W9 := by rw [hW9]; exact kp_alloc _ _
        obtain ⟨p13, hp13⟩ : ∃ b, b = w8.heap.size := ⟨_, rfl⟩
        have B9 : Hid (Blk W9 p13 25 #[.slice a8 l8 c8]) := Lib.hid (by rw [hW9, hp13]; exact Blk.new _ _ _)
        have K9 := Lib.hid (hk8.trans k9)
        have R9 := Lib.hid (hr8.keep k9)
        have HA2 := Lib.hid (rApply_any (HR7.out.keep K9.out) (HCW.out.keep K9.out) HDL.out)
        have x0 := (B7.out.keep K9.out).cell 0 rfl
        rw [hW9] at x0
        have HW9 := Lib.hid hW9; have HP13 := Lib.hid hp13
        clear hr8 hk8 hE hW9 k9 hp13
        go_wp2_with fail
        rw [← HW9.out, ← HP13.out]
        refine HA2.out.mono ?_
        rintro e w10 ⟨v10, rfl, hr10, -, hk10⟩
        obtain ⟨a10, l10, c10, hv10⟩ := hr10.form
        subst hv10
        rw [← HEQ.out]
        obtain ⟨W11, hW11⟩ : ∃ W, W = w10.alloc (.cells #[.slice a10 l10 c10] 25) := ⟨_, rfl⟩
        have k11 : Kp w10 W11 := by rw [hW11]; exact kp_alloc _ _
        obtain ⟨p15, hp15⟩ : ∃ b, b = w10.heap.size := ⟨_, rfl⟩
        have b11 : Blk W11 p15 25 #[.slice a10 l10 c10] := by rw [hW11, hp15]; exact Blk.new _ _ _
        have K11 := Lib.hid (K9.out.trans (hk10.trans k11))
        have hsm := rSame_any (R9.out.keep (hk10.trans k11)) (hr10.keep k11)
        rw [decide_eq_true rfl] at hsm
        have HSM := Lib.hid hsm
        have x1 := (B9.out.keep (hk10.trans k11)).cell 0 rfl
        have x2 := b11.cell 0 rfl
        rw [hW11] at x1 x2
        rw [hp15] at x2
        have HW11 := Lib.hid hW11; have HP15 := Lib.hid hp15
        have q3 : ((E : Int) != (E : Int)) = false := by simp
        clear hr10 hk10 hW11 k11 hp15 b11 hsm x0
        go_wp2_with fail
        rw [← HW11.out]
        refine HSM.out.mono ?_
        rintro e w12 ⟨rfl, hk12⟩
        have K12 := Lib.hid (K11.out.trans hk12)
        have HA3 := Lib.hid (HIN.out w12 _ _ fa D (HMX.out w12 (HKW.out.trans K12.out)) (HR7.out.keep K12.out) (HCW.out.keep K12.out) HDL.out)
        have x0 := (B7.out.keep K12.out).cell 0 rfl
        clear hk12 x1 x2 q3
        go_wp2_with fail
        refine HA3.out.mono ?_
        rintro e w13 ⟨u13, rfl, hu13, -, hk13⟩
        obtain ⟨a13, c13, hv13, -, -, -⟩ := hu13.open3
        obtain ⟨E2, hE2⟩ : ∃ E, E = (invA fa D).1 := ⟨_, rfl⟩
        obtain ⟨D2, hD2⟩ : ∃ E, E = (invA fa D).2 := ⟨_, rfl⟩
        rw [← hD2] at hu13 hv13
        rw [← hE2]
        obtain ⟨n2, hn2⟩ : ∃ n, n = D2.length := ⟨_, rfl⟩
        rw [← hn2] at hv13
        subst hv13
        have K13 := Lib.hid (K12.out.trans hk13)
        have HU13 := Lib.hid hu13; have HE2 := Lib.hid hE2; have HD2 := Lib.hid hD2; have HN2 := Lib.hid hn2
        have HA4 := Lib.hid (rInvert_any (HR7.out.keep K13.out) (HCW.out.keep K13.out) HDL.out)
        have x0 := (B7.out.keep K13.out).cell 0 rfl
        clear hu13 hk13 hE2 hD2 hn2
        go_wp2_with fail
        refine HA4.out.mono ?_
        rintro e w14 ⟨u14, rfl, hu14, -, hk14⟩
        obtain ⟨a14, c14, hv14, -, -, -⟩ := hu14.open3
        rw [← HD2.out] at hu14 hv14
        rw [← HN2.out] at hv14
        rw [← HE2.out]
        subst hv14
        have K14 := Lib.hid (K13.out.trans hk14)
        have hs := SameC_any (HU13.out.keep hk14) hu14 (by rw [HD2.out]; exact invA_most _ _) (by rw [HD2.out]; exact invA_most _ _)
        rw [decide_eq_true rfl] at hs
        have HS := Lib.hid hs
        have q4 : ((E2 : Int) != (E2 : Int)) = false := by simp
        clear hu14 hk14 hs x0
        go_wp2_with fail
        refine HS.out.mono ?_
        rintro e w15 ⟨rfl, hk15⟩
        have HI15 := Lib.hid (HI7.out.keep (K14.out.trans hk15))
        clear hk15 q4
        go_wp2_with fail
        go_roundw
        case rel => exact ⟨k + 1, by go_num, by omega, HI15.out⟩
        case measure => (first | (simp [intOf]; omega) | simp [intOf])
    · have i1 : (3 : Int) ≤ (k : Int) := by omega
      have HA := Lib.hid (HAW.out wy (HMX.out wy hI.tq.base))
      have HKY := Lib.hid hI.tq.base
      clear hI hk hk3
      go_wp2_with fail
      refine HA.out.mono ?_
      rintro e w7 ⟨rfl, hk7⟩
      have K7 := Lib.hid ((HKR.out.trans HKY.out).trans hk7)
      clear hk7
      go_wp2_with fail
      go_ret
      exact ⟨rfl, K7.out⟩
set_option maxRecDepth 100000 in
set_option maxHeartbeats 16000000 in
theorem fdApplies_long (HDC : DiffC) (HAC : ApplyC) (HIC : InvertC) {zs : List Int} {v vr vo : Value} {fr : List Fl} {odd : List Ch} {w : World} (hz : SlI w v zs) (hr : Rw w vr fr) (hodd : Cw w vo odd) (hol : 6 < odd.length) (hm : MX w) :
    Calls Tryz.prog 4 #[v, .agg #[vr], vo] w fun e w' => e = .returned (.bool true) ∧ Kp w w' := by
  obtain ⟨ra, rl, rc, hvr⟩ := hr.form
  subst hvr
  obtain ⟨Wr, hWr⟩ : ∃ W, W = w.alloc (.cells #[.slice ra rl rc] 25) := ⟨_, rfl⟩
  have kr : Kp w Wr := by rw [hWr]; exact kp_alloc _ _
  have hz' := hz.keep kr
  have brr : Blk Wr w.heap.size 25 #[.slice ra rl rc] := by rw [hWr]; exact Blk.new _ _ _
  have hodd' := hodd.keep kr
  obtain ⟨oa, oc, hov, hoc, -, -⟩ := hodd.open3
  obtain ⟨on, hon⟩ : ∃ n, n = odd.length := ⟨_, rfl⟩
  rw [← hon] at hov hoc hol
  subst hov
  have HOD : Hid (Cw Wr (.slice oa 6 oc) (odd.take 6)) := Lib.hid (hodd'.take15 6 (by omega)); have HON := Lib.hid hon
  have i6 : (6 : Int) < (on : Int) := by omega
  have i7 : (6 : Int) ≤ (oc : Int) := by omega
  obtain ⟨⟨ao, cap, rfl, hc, hmx, hat⟩, hlt, hsm⟩ := hz
  obtain ⟨len0, hlen⟩ : ∃ len, len = zs.length := ⟨_, rfl⟩
  rw [← hlen] at hz' ⊢
  obtain ⟨w1, hw1⟩ : ∃ w1, w1 = Wr.alloc (Obj.cells #[.slice ao len0 cap, .int .i64 0] 30) := ⟨_, rfl⟩
  have zr : Wr.heap.size = w.heap.size + 1 := by rw [hWr]; simp
  have htp : Tp Wr w1 (w.heap.size + 1) 0 := by
    rw [hw1, ← zr]
    exact ⟨⟨ao, len0, cap, zs, hz', Blk.new _ _ _⟩, Kp.alloc (Kp.refl _) _, Nat.le_refl _⟩
  have HZ1 : Hid (w1.heap.size = w.heap.size + 1 + 1) := Lib.hid (by rw [hw1]; simp [zr])
  have HTW := Lib.hid (two_q (n := 26) ⟨0, by omega, htp⟩)
  have HW1 : Hid (w1 = (w.alloc (.cells #[.slice ra rl rc] 25)).alloc (Obj.cells #[.slice ao len0 cap, .int .i64 0] 30)) := Lib.hid (by rw [hw1, hWr])
  have HM := Lib.hid hm; have HKR := Lib.hid kr
  have HRR := Lib.hid (hr.keep kr); have HBR := Lib.hid brr
  have HAP := Lib.hid HAC; have HIN := Lib.hid HIC; have HAW := Lib.hid (fun (W : World) (h : MX W) => awake15_any HDC HAC HIC h)
  clear hodd hodd' hon hoc hol hz' hc hmx hat hlt hsm hlen hw1 htp hm HDC HAC HIC hWr kr brr zr hr
  go_enter Tryz.func4, Tryz.ntmps4
  go_wp2_with fail
  rw [← HW1.out]
  refine HTW.out.mono ?_
  rintro e w2 ⟨va, vb, fa, fb, rfl, ⟨hra, hrb⟩, ⟨hea, heb⟩, ⟨hna, hnb⟩, hq, hg2⟩
  obtain ⟨aa, la, ca, hva⟩ := hra.form
  obtain ⟨ab, lb, cb, hvb⟩ := hrb.form
  subst hva hvb
  obtain ⟨Wa, hWa⟩ : ∃ W, W = w2.alloc (.cells #[.slice aa la ca] 25) := ⟨_, rfl⟩
  obtain ⟨W3, hW3⟩ : ∃ W, W = Wa.alloc (.cells #[.slice ab lb cb] 25) := ⟨_, rfl⟩
  have k3a : Kp w2 Wa := by rw [hWa]; exact kp_alloc _ _
  have k3b : Kp Wa W3 := by rw [hW3]; exact kp_alloc _ _
  have k3 := Kp.trans k3a k3b
  have hba : Blk W3 w2.heap.size 25 #[.slice aa la ca] := by refine Blk.keep ?_ k3b; rw [hWa]; exact Blk.new _ _ _
  have hbb : Blk W3 (w2.heap.size + 1) 25 #[.slice ab lb cb] := by
    have e : w2.heap.size + 1 = Wa.heap.size := by rw [hWa]; simp
    rw [e, hW3]; exact Blk.new _ _ _
  have hk03 := Kp.trans hq.base k3
  have HRA := Lib.hid (hra.keep k3); have HRB := Lib.hid (hrb.keep k3)
  have HRW := Lib.hid (HRR.out.keep hk03)
  have HK3 := Lib.hid (HKR.out.trans hk03)
  have HGN : Hid (w1.heap.size = w.heap.size + 1 + 1) := HZ1
  have hg1 := hg2.size
  have HBR2 := Lib.hid (HBR.out.keep hk03)
  have HTQ := Lib.hid (hq.keep k3)
  have HBA := Lib.hid hba; have HBB := Lib.hid hbb
  have hgl := HGN.out
  have HNA : Hid (∀ b, (Value.slice aa la ca).ownBlock = some b → b ≠ w.heap.size + 1) := Lib.hid (fun b hb => by have := hna b hb; omega)
  have HNB : Hid (∀ b, (Value.slice ab lb cb).ownBlock = some b → b ≠ w.heap.size + 1) := Lib.hid (fun b hb => by have := hnb b hb; omega)
  have HLA : Hid (fa.length ≤ 20 ∧ fb.length ≤ 20) := Lib.hid ⟨by have := hea.len; omega, by have := heb.len; omega⟩
  have HSZ : Hid (w.heap.size + 1 < w2.heap.size) := Lib.hid (by omega)
  obtain ⟨pa, hpa⟩ : ∃ b, b = w2.heap.size := ⟨_, rfl⟩
  obtain ⟨pb, hpb⟩ : ∃ b, b = w2.heap.size + 1 := ⟨_, rfl⟩
  have x0 := hba.cell 0 rfl; have x1 := hbb.cell 0 rfl
  rw [hW3, hWa] at x0 x1
  have HW3 : Hid (W3 = (w2.alloc (.cells #[.slice aa la ca] 25)).alloc (.cells #[.slice ab lb cb] 25)) := Lib.hid (by rw [hW3, hWa])
  have HPA := Lib.hid hpa; have HPB := Lib.hid hpb
  obtain ⟨g, hg⟩ : ∃ g, g = w.heap.size + 1 := ⟨_, rfl⟩
  have HG := Lib.hid hg
  rw [← hg] at HTQ HNA HNB HSZ
  rw [← hpa] at HBA HSZ
  rw [← hpb] at HBB
  clear hra hrb hea heb hna hnb hg2 hq hWa hW3 k3a k3b k3 hba hbb hk03 hg1 hgl hpa hpb hg
  go_wp2_with fail
  rw [← HW3.out, ← HPB.out, ← HPA.out, ← HG.out]
  have HQ1 : Hid (Tq Wr W3 g 26) := HTQ
  have HSC : Hid (∀ W, Gr g W3 W → W.cell? ⟨pa, 0, none⟩ = some (.slice aa la ca) ∧ W.cell? ⟨pb, 0, none⟩ = some (.slice ab lb cb)) := Lib.hid (fun W h => ⟨(HBA.out.gr h (by have := HSZ.out; omega)).cell 0 rfl, (HBB.out.gr h (by have h1 := HPB.out; have h2 := HPA.out; have := HSZ.out; omega)).cell 0 rfl⟩)
  clear x0 x1
  go_region_held3 (fun w' => w'.cell? ⟨pa, 0, none⟩ = some (.slice aa la ca) ∧ w'.cell? ⟨pb, 0, none⟩ = some (.slice ab lb cb))
    (first
      | exact HSC.out _ (Gr.refl _ _)
      | exact HSC.out _ ((kp_drew _).gr _)
      | exact HSC.out _ hgg5
      | exact HSC.out _ (hgg5.trans ((kp_alloc _ _).gr _))
      | exact HSC.out _ ((hgg5.trans ((kp_alloc _ _).gr _)).trans ((kp_drew _).gr _))
      | exact HSC.out _ hgg4
      | fail "no keep")
    (first
      | (go_at_call 13; refine (changes_q (n := 4) hq4 (HRB.out.gr hgg4 HNB.out) (HRA.out.gr hgg4 HNA.out) HLA.out.2 HLA.out.1).mono ?_; rintro e w5 ⟨u5, D5, rfl, hu5, hD5, hn5, hq5, hg5⟩; have hgg5 := hgg4.trans hg5; obtain ⟨a5, c5, hv5, -, -, -⟩ := hu5.open3; obtain ⟨n5, hm5⟩ : ∃ n, n = D5.length := ⟨_, rfl⟩; rw [← hm5] at hv5; subst hv5; have HM5 := Lib.hid hm5; clear hm5)
      | (go_at_call 13; refine (changes_q (n := 15) (HQ1.out.keep (kp_drew _)) (HRA.out.keep (kp_drew _)) (HRB.out.keep (kp_drew _)) HLA.out.1 HLA.out.2).mono ?_; rintro e w4 ⟨u4, D4, rfl, hu4, hD4, hn4, hq4, hg4⟩; have hgg4 := ((kp_drew W3).gr g).trans hg4; obtain ⟨a4, c4, hv4, -, -, -⟩ := hu4.open3; obtain ⟨n4, hm4⟩ : ∃ n, n = D4.length := ⟨_, rfl⟩; rw [← hm4] at hv4; subst hv4; have HM4 := Lib.hid hm4; clear hm4)
      | fail "no arm")
  obtain ⟨W5, hW5⟩ : ∃ W, W = w5.alloc (.cells #[.slice a4 n4 c4, .slice a5 n5 c5, .slice oa 6 oc] 33) := ⟨_, rfl⟩
  have k5 : Kp w5 W5 := by rw [hW5]; exact kp_alloc _ _
  obtain ⟨b5, hb5⟩ : ∃ b, b = w5.heap.size := ⟨_, rfl⟩
  have hgl3 : g < W3.heap.size := HTQ.out.lt
  have hI5 : AqI Wr W5 g 4 pa b5 (.slice aa la ca) fa [(.slice a4 n4 c4, D4), (.slice a5 n5 c5, D5), (.slice oa 6 oc, odd.take 6)] := by
    have hs4 : W3.heap.size ≤ w4.heap.size := hgg4.size
    have hs5 : w4.heap.size ≤ w5.heap.size := hg5.size
    refine ⟨(HBA.out.gr hgg5 (by have := HSZ.out; omega)).keep k5, by rw [hW5, hb5]; exact Blk.new _ _ _, (HRA.out.gr hgg5 HNA.out).keep k5, HNA.out, fun p hp => ?_, hq5.keep k5, by have := HSZ.out; omega, by omega⟩
    simp only [List.mem_cons, List.not_mem_nil, or_false] at hp
    rcases hp with rfl | rfl | rfl
    · exact ⟨.inr ⟨(hu4.gr hg5 (fun b hb => by have h1 := hn4 b hb; have h2 : W3.drew.heap.size = W3.heap.size := rfl; omega)).keep k5, fun b hb => by have h1 := hn4 b hb; have h2 : W3.drew.heap.size = W3.heap.size := rfl; omega⟩, Nat.le_trans hD4 (by decide)⟩
    · exact ⟨.inr ⟨hu5.keep k5, fun b hb => by have h1 := hn5 b hb; omega⟩, Nat.le_trans hD5 (by decide)⟩
    · exact ⟨.inl HOD.out, by show (odd.take 6).length ≤ 200; rw [List.length_take]; omega⟩
  have HI5 := Lib.hid hI5
  have HW5 := Lib.hid hW5; have HB5 := Lib.hid hb5
  obtain ⟨L, hL⟩ : ∃ L, L = [((.slice a4 n4 c4 : Value), D4), (.slice a5 n5 c5, D5), (.slice oa 6 oc, odd.take 6)] := ⟨_, rfl⟩
  have HLL : Hid (L.length = 3) := Lib.hid (by rw [hL]; rfl)
  rw [← hL] at HI5
  have HMX : Hid (∀ W, Kp Wr W → MX W) := Lib.hid (fun W h => HM.out.keep (HKR.out.trans h))
  obtain ⟨p4, hp4⟩ : ∃ b, b = w.heap.size := ⟨_, rfl⟩
  have HP4 := Lib.hid hp4
  rw [← hp4] at HBR
  clear hu4 hD4 hn4 hq4 hg4 hgg4 hu5 hD5 hn5 hq5 hg5 hgg5 hW5 k5 hb5 hgl3 hI5 hL hp4 HQ1 HSC HTQ HBA HBB HBR2
  (try clear hS)
  rw [← HW5.out, ← HB5.out, ← HP4.out]
  go_wp2_with fail
  go_loopw [43] (fun i wr => ∃ k : Nat, i = .int .i64 (k : Nat) ∧ k ≤ 3 ∧ AqI Wr wr g (3 - k) pa b5 (.slice aa la ca) fa L) (fun i _ => 3 - (intOf i).toNat)
  case atStart => exact ⟨0, rfl, Nat.zero_le _, HI5.out.less (by omega)⟩
  case round =>
    obtain ⟨k, rfl, hk, hI⟩ := hrel
    rename World => wy
    have HI := Lib.hid hI
    by_cases hk3 : k < 3
    · obtain ⟨⟨u, D⟩, hp⟩ : ∃ p, L[k]? = some p := ⟨_, List.getElem?_eq_getElem (by have := HLL.out; omega)⟩
      obtain ⟨hcw, hcl, hdl⟩ := hI.cw hp
      simp only at hcw hcl hdl
      have HPK := Lib.hid hp
      obtain ⟨ux, uc, hux, -, -, -⟩ := hcw.open3
      obtain ⟨ul, hul⟩ : ∃ n, n = D.length := ⟨_, rfl⟩
      rw [← hul] at hux
      subst hux
      have HDL := Lib.hid hdl
      have HUC : Hid (∀ W, AqI Wr W g 0 pa b5 (.slice aa la ca) fa L → Cw W (.slice ux ul uc) D) := Lib.hid (fun W h => (h.cw HPK.out).1)
      have x0 := hI.ba.cell 0 rfl
      have i0 : (0 : Int) ≤ (k : Int) := by omega
      have i1 : (k : Int) < (3 : Int) := by omega
      obtain ⟨W6, hW6⟩ : ∃ W, W = wy.alloc (.cells #[.slice aa la ca] 25) := ⟨_, rfl⟩
      obtain ⟨p12, hp12⟩ : ∃ b, b = wy.heap.size := ⟨_, rfl⟩
      have k6 : Kp wy W6 := by rw [hW6]; exact kp_alloc _ _
      have B6 : Hid (Blk W6 p12 25 #[.slice aa la ca]) := Lib.hid (by rw [hW6, hp12]; exact Blk.new _ _ _)
      have HI6 := Lib.hid (hI.keep k6)
      have HNL : Hid ((fa ≠ [] → ∀ b, (Value.slice aa la ca).ownBlock = some b → b ≠ p12) ∧ ∀ q ∈ L, q.2 ≠ [] → ∀ b, q.1.ownBlock = some b → b ≠ p12) := Lib.hid (by rw [hp12]; exact hI.olds)
      have HGP : Hid (p12 ≠ g) := Lib.hid (by have := hI.tq.lt; omega)
      have HPB4 : Hid (p12 ≠ pa ∧ p12 ≠ b5) := Lib.hid (by have h1 := hI.ba.lt; have h2 := hI.bl.lt; omega)
      have HPW : Hid (Wr.heap.size ≤ p12) := Lib.hid (by have := hI.tq.base.size; omega)
      have HW6 := Lib.hid hW6; have HP12 := Lib.hid hp12
      clear hI hcw hp hul hdl hW6 hp12 k6
      by_cases hk2 : k = 2
      · have q2 : ((k : Int) == 2) = true := beq_iff_eq.2 (by omega)
        have HK2 := Lib.hid hk2
        have HCH := Lib.hid (Chance_q (n := 3 - (k + 1)) (HI6.out.less (m := 3 - (k + 1) + 1) (by omega)).tq 1 2 (by omega) (by omega))
        clear hk2
        go_wp2_with fail
        rw [← HW6.out, ← HP12.out]
        refine HCH.out.mono ?_
        rintro e w7 ⟨⟨c, rfl⟩, hq7, hg7⟩
        have HI7 := Lib.hid (HI6.out.draw hg7 hq7)
        have B7 := Lib.hid (B6.out.gr hg7 HGP.out)
        clear hq7 hg7 x0 hcl hk
        cases c with
        | false =>
          have HR7 : Hid (Rw w7 (.slice aa la ca) fa) := Lib.hid HI7.out.ra
          obtain ⟨W7, hW7⟩ : ∃ W, W = w7 := ⟨_, rfl⟩
          subst hW7
          have HCW := Lib.hid (HUC.out W7 (HI7.out.less (Nat.zero_le _)))
          have HKW := Lib.hid HI7.out.tq.base
          have HA1 := Lib.hid (HAP.out W7 _ _ fa D (HMX.out W7 HKW.out) HR7.out HCW.out HDL.out)
          have x0 := B7.out.cell 0 rfl
          go_wp2_with fail
          refine HA1.out.mono ?_
          rintro e w8 ⟨v8, rfl, hr8, -, hk8⟩
          obtain ⟨a8, l8, c8, hv8⟩ := hr8.form
          subst hv8
          obtain ⟨E, hE⟩ : ∃ E, E = (aplA fa D).1 := ⟨_, rfl⟩
          rw [← hE]
          have HEQ := Lib.hid hE
          obtain ⟨W9, hW9⟩ : ∃ W, W = w8.alloc (.cells #[.slice a8 l8 c8] 25) := ⟨_, rfl⟩
          have k9 : Kp w8 W9 := by rw [hW9]; exact kp_alloc _ _
          obtain ⟨p13, hp13⟩ : ∃ b, b = w8.heap.size := ⟨_, rfl⟩
          have B9 : Hid (Blk W9 p13 25 #[.slice a8 l8 c8]) := Lib.hid (by rw [hW9, hp13]; exact Blk.new _ _ _)
          have K9 := Lib.hid (hk8.trans k9)
          have R9 := Lib.hid (hr8.keep k9)
          have HA2 := Lib.hid (rApply_any (HR7.out.keep K9.out) (HCW.out.keep K9.out) HDL.out)
          have x0 := (B7.out.keep K9.out).cell 0 rfl
          rw [hW9] at x0
          have HW9 := Lib.hid hW9; have HP13 := Lib.hid hp13
          clear hr8 hk8 hE hW9 k9 hp13
          go_wp2_with fail
          rw [← HW9.out, ← HP13.out]
          refine HA2.out.mono ?_
          rintro e w10 ⟨v10, rfl, hr10, -, hk10⟩
          obtain ⟨a10, l10, c10, hv10⟩ := hr10.form
          subst hv10
          rw [← HEQ.out]
          obtain ⟨W11, hW11⟩ : ∃ W, W = w10.alloc (.cells #[.slice a10 l10 c10] 25) := ⟨_, rfl⟩
          have k11 : Kp w10 W11 := by rw [hW11]; exact kp_alloc _ _
          obtain ⟨p15, hp15⟩ : ∃ b, b = w10.heap.size := ⟨_, rfl⟩
          have b11 : Blk W11 p15 25 #[.slice a10 l10 c10] := by rw [hW11, hp15]; exact Blk.new _ _ _
          have K11 := Lib.hid (K9.out.trans (hk10.trans k11))
          have hsm := rSame_any (R9.out.keep (hk10.trans k11)) (hr10.keep k11)
          rw [decide_eq_true rfl] at hsm
          have HSM := Lib.hid hsm
          have x1 := (B9.out.keep (hk10.trans k11)).cell 0 rfl
          have x2 := b11.cell 0 rfl
          rw [hW11] at x1 x2
          rw [hp15] at x2
          have HW11 := Lib.hid hW11; have HP15 := Lib.hid hp15
          have q3 : ((E : Int) != (E : Int)) = false := by simp
          clear hr10 hk10 hW11 k11 hp15 b11 hsm x0
          go_wp2_with fail
          rw [← HW11.out]
          refine HSM.out.mono ?_
          rintro e w12 ⟨rfl, hk12⟩
          have K12 := Lib.hid (K11.out.trans hk12)
          have HA3 := Lib.hid (HIN.out w12 _ _ fa D (HMX.out w12 (HKW.out.trans K12.out)) (HR7.out.keep K12.out) (HCW.out.keep K12.out) HDL.out)
          have x0 := (B7.out.keep K12.out).cell 0 rfl
          clear hk12 x1 x2 q3
          go_wp2_with fail
          refine HA3.out.mono ?_
          rintro e w13 ⟨u13, rfl, hu13, -, hk13⟩
          obtain ⟨a13, c13, hv13, -, -, -⟩ := hu13.open3
          obtain ⟨E2, hE2⟩ : ∃ E, E = (invA fa D).1 := ⟨_, rfl⟩
          obtain ⟨D2, hD2⟩ : ∃ E, E = (invA fa D).2 := ⟨_, rfl⟩
          rw [← hD2] at hu13 hv13
          rw [← hE2]
          obtain ⟨n2, hn2⟩ : ∃ n, n = D2.length := ⟨_, rfl⟩
          rw [← hn2] at hv13
          subst hv13
          have K13 := Lib.hid (K12.out.trans hk13)
          have HU13 := Lib.hid hu13; have HE2 := Lib.hid hE2; have HD2 := Lib.hid hD2; have HN2 := Lib.hid hn2
          have HA4 := Lib.hid (rInvert_any (HR7.out.keep K13.out) (HCW.out.keep K13.out) HDL.out)
          have x0 := (B7.out.keep K13.out).cell 0 rfl
          clear hu13 hk13 hE2 hD2 hn2
          go_wp2_with fail
          refine HA4.out.mono ?_
          rintro e w14 ⟨u14, rfl, hu14, -, hk14⟩
          obtain ⟨a14, c14, hv14, -, -, -⟩ := hu14.open3
          rw [← HD2.out] at hu14 hv14
          rw [← HN2.out] at hv14
          rw [← HE2.out]
          subst hv14
          have K14 := Lib.hid (K13.out.trans hk14)
          have hs := SameC_any (HU13.out.keep hk14) hu14 (by rw [HD2.out]; exact invA_most _ _) (by rw [HD2.out]; exact invA_most _ _)
          rw [decide_eq_true rfl] at hs
          have HS := Lib.hid hs
          have q4 : ((E2 : Int) != (E2 : Int)) = false := by simp
          clear hu14 hk14 hs x0
          go_wp2_with fail
          refine HS.out.mono ?_
          rintro e w15 ⟨rfl, hk15⟩
          have HI15 := Lib.hid (HI7.out.keep (K14.out.trans hk15))
          clear hk15 q4
          go_wp2_with fail
          go_roundw
          case rel => exact ⟨k + 1, by go_num, by omega, HI15.out⟩
          case measure => (first | (simp [intOf]; omega) | simp [intOf])
        | true =>
          have y0 := (HBR.out.keep HI7.out.tq.base).cell 0 rfl
          have y1 := B7.out.cell 0 rfl; have y2 := B7.out.free 0
          obtain ⟨W7, hW7⟩ : ∃ W, W = w7.setCell ⟨p12, 0, none⟩ (.slice ra rl rc) := ⟨_, rfl⟩
          have o7 : Only p12 w7 W7 := by rw [hW7]; exact (Only.refl _ _).set 0 _
          have hi7 : AqI Wr W7 g (3 - (k + 1)) pa b5 (.slice aa la ca) fa L := by
            exact HI7.out.set o7 HPW.out HGP.out HPB4.out.1 HPB4.out.2 HNL.out
          have HR7 : Hid (Rw W7 (.slice ra rl rc) fr) := Lib.hid (HRR.out.keep hi7.tq.base)
          have B7' : Hid (Blk W7 p12 25 #[.slice ra rl rc]) := Lib.hid (by rw [hW7]; exact B7.out.set 0 _)
          have HI7' := Lib.hid hi7
          have HW7 := Lib.hid hW7
          clear hW7 o7 hi7
          go_wp2_with fail
          rw [← HW7.out]
          have HCW := Lib.hid (HUC.out W7 (HI7'.out.less (Nat.zero_le _)))
          have HKW := Lib.hid HI7'.out.tq.base
          have HA1 := Lib.hid (HAP.out W7 _ _ fr D (HMX.out W7 HKW.out) HR7.out HCW.out HDL.out)
          have x0 := B7'.out.cell 0 rfl
          go_wp2_with fail
          refine HA1.out.mono ?_
          rintro e w8 ⟨v8, rfl, hr8, -, hk8⟩
          obtain ⟨a8, l8, c8, hv8⟩ := hr8.form
          subst hv8
          obtain ⟨E, hE⟩ : ∃ E, E = (aplA fr D).1 := ⟨_, rfl⟩
          rw [← hE]
          have HEQ := Lib.hid hE
          obtain ⟨W9, hW9⟩ : ∃ W, W = w8.alloc (.cells #[.slice a8 l8 c8] 25) := ⟨_, rfl⟩
          have k9 : Kp w8 W9 := by rw [hW9]; exact kp_alloc _ _
          obtain ⟨p13, hp13⟩ : ∃ b, b = w8.heap.size := ⟨_, rfl⟩
          have B9 : Hid (Blk W9 p13 25 #[.slice a8 l8 c8]) := Lib.hid (by rw [hW9, hp13]; exact Blk.new _ _ _)
          have K9 := Lib.hid (hk8.trans k9)
          have R9 := Lib.hid (hr8.keep k9)
          have HA2 := Lib.hid (rApply_any (HR7.out.keep K9.out) (HCW.out.keep K9.out) HDL.out)
          have x0 := (B7'.out.keep K9.out).cell 0 rfl
          rw [hW9] at x0
          have HW9 := Lib.hid hW9; have HP13 := Lib.hid hp13
          clear hr8 hk8 hE hW9 k9 hp13
          go_wp2_with fail
          rw [← HW9.out, ← HP13.out]
          refine HA2.out.mono ?_
          rintro e w10 ⟨v10, rfl, hr10, -, hk10⟩
          obtain ⟨a10, l10, c10, hv10⟩ := hr10.form
          subst hv10
          rw [← HEQ.out]
          obtain ⟨W11, hW11⟩ : ∃ W, W = w10.alloc (.cells #[.slice a10 l10 c10] 25) := ⟨_, rfl⟩
          have k11 : Kp w10 W11 := by rw [hW11]; exact kp_alloc _ _
          obtain ⟨p15, hp15⟩ : ∃ b, b = w10.heap.size := ⟨_, rfl⟩
          have b11 : Blk W11 p15 25 #[.slice a10 l10 c10] := by rw [hW11, hp15]; exact Blk.new _ _ _
          have K11 := Lib.hid (K9.out.trans (hk10.trans k11))
          have hsm := rSame_any (R9.out.keep (hk10.trans k11)) (hr10.keep k11)
          rw [decide_eq_true rfl] at hsm
          have HSM := Lib.hid hsm
          have x1 := (B9.out.keep (hk10.trans k11)).cell 0 rfl
          have x2 := b11.cell 0 rfl
          rw [hW11] at x1 x2
          rw [hp15] at x2
          have HW11 := Lib.hid hW11; have HP15 := Lib.hid hp15
          have q3 : ((E : Int) != (E : Int)) = false := by simp
          clear hr10 hk10 hW11 k11 hp15 b11 hsm x0
          go_wp2_with fail
          rw [← HW11.out]
          refine HSM.out.mono ?_
          rintro e w12 ⟨rfl, hk12⟩
          have K12 := Lib.hid (K11.out.trans hk12)
          have HA3 := Lib.hid (HIN.out w12 _ _ fr D (HMX.out w12 (HKW.out.trans K12.out)) (HR7.out.keep K12.out) (HCW.out.keep K12.out) HDL.out)
          have x0 := (B7'.out.keep K12.out).cell 0 rfl
          clear hk12 x1 x2 q3
          go_wp2_with fail
          refine HA3.out.mono ?_
          rintro e w13 ⟨u13, rfl, hu13, -, hk13⟩
          obtain ⟨a13, c13, hv13, -, -, -⟩ := hu13.open3
          obtain ⟨E2, hE2⟩ : ∃ E, E = (invA fr D).1 := ⟨_, rfl⟩
          obtain ⟨D2, hD2⟩ : ∃ E, E = (invA fr D).2 := ⟨_, rfl⟩
          rw [← hD2] at hu13 hv13
          rw [← hE2]
          obtain ⟨n2, hn2⟩ : ∃ n, n = D2.length := ⟨_, rfl⟩
          rw [← hn2] at hv13
          subst hv13
          have K13 := Lib.hid (K12.out.trans hk13)
          have HU13 := Lib.hid hu13; have HE2 := Lib.hid hE2; have HD2 := Lib.hid hD2; have HN2 := Lib.hid hn2
          have HA4 := Lib.hid (rInvert_any (HR7.out.keep K13.out) (HCW.out.keep K13.out) HDL.out)
          have x0 := (B7'.out.keep K13.out).cell 0 rfl
          clear hu13 hk13 hE2 hD2 hn2
          go_wp2_with fail
          refine HA4.out.mono ?_
          rintro e w14 ⟨u14, rfl, hu14, -, hk14⟩
          obtain ⟨a14, c14, hv14, -, -, -⟩ := hu14.open3
          rw [← HD2.out] at hu14 hv14
          rw [← HN2.out] at hv14
          rw [← HE2.out]
          subst hv14
          have K14 := Lib.hid (K13.out.trans hk14)
          have hs := SameC_any (HU13.out.keep hk14) hu14 (by rw [HD2.out]; exact invA_most _ _) (by rw [HD2.out]; exact invA_most _ _)
          rw [decide_eq_true rfl] at hs
          have HS := Lib.hid hs
          have q4 : ((E2 : Int) != (E2 : Int)) = false := by simp
          clear hu14 hk14 hs x0
          go_wp2_with fail
          refine HS.out.mono ?_
          rintro e w15 ⟨rfl, hk15⟩
          have HI15 := Lib.hid (HI7'.out.keep (K14.out.trans hk15))
          clear hk15 q4
          go_wp2_with fail
          go_roundw
          case rel => exact ⟨k + 1, by go_num, by omega, HI15.out⟩
          case measure => (first | (simp [intOf]; omega) | simp [intOf])
      · have q2 : ((k : Int) == 2) = false := beq_eq_false_iff_ne.2 (by omega)
        have HI7 := Lib.hid (HI6.out.less (m := 3 - (k + 1)) (by omega))
        have HR7 : Hid (Rw W6 (.slice aa la ca) fa) := Lib.hid HI7.out.ra
        have B7 := B6
        clear hk2 hk
        go_wp2_with fail
        rw [← HW6.out, ← HP12.out]
        obtain ⟨W7, hW7⟩ : ∃ W, W = W6 := ⟨_, rfl⟩
        subst hW7
        clear hcl
        have HCW := Lib.hid (HUC.out W7 (HI7.out.less (Nat.zero_le _)))
        have HKW := Lib.hid HI7.out.tq.base
        have HA1 := Lib.hid (HAP.out W7 _ _ fa D (HMX.out W7 HKW.out) HR7.out HCW.out HDL.out)
        have x0 := B7.out.cell 0 rfl
        go_wp2_with fail
        refine HA1.out.mono ?_
        rintro e w8 ⟨v8, rfl, hr8, -, hk8⟩
        obtain ⟨a8, l8, c8, hv8⟩ := hr8.form
        subst hv8
        obtain ⟨E, hE⟩ : ∃ E, E = (aplA fa D).1 := ⟨_, rfl⟩
        rw [← hE]
        have HEQ := Lib.hid hE
        obtain ⟨W9, hW9⟩ : ∃ W, W = w8.alloc (.cells #[.slice a8 l8 c8] 25) := ⟨_, rfl⟩
        have k9 : Kp w8 W9 := by rw [hW9]; exact kp_alloc _ _
        obtain ⟨p13, hp13⟩ : ∃ b, b = w8.heap.size := ⟨_, rfl⟩
        have B9 : Hid (Blk W9 p13 25 #[.slice a8 l8 c8]) := Lib.hid (by rw [hW9, hp13]; exact Blk.new _ _ _)
        have K9 := Lib.hid (hk8.trans k9)
        have R9 := Lib.hid (hr8.keep k9)
        have HA2 := Lib.hid (rApply_any (HR7.out.keep K9.out) (HCW.out.keep K9.out) HDL.out)
        have x0 := (B7.out.keep K9.out).cell 0 rfl
        rw [hW9] at x0
        have HW9 := Lib.hid hW9; have HP13 := Lib.hid hp13
        clear hr8 hk8 hE hW9 k9 hp13
        go_wp2_with fail
        rw [← HW9.out, ← HP13.out]
        refine HA2.out.mono ?_
        rintro e w10 ⟨v10, rfl, hr10, -, hk10⟩
        obtain ⟨a10, l10, c10, hv10⟩ := hr10.form
        subst hv10
        rw [← HEQ.out]
        obtain ⟨W11, hW11⟩ : ∃ W, W = w10.alloc (.cells #[.slice a10 l10 c10] 25) := ⟨_, rfl⟩
        have k11 : Kp w10 W11 := by rw [hW11]; exact kp_alloc _ _
        obtain ⟨p15, hp15⟩ : ∃ b, b = w10.heap.size := ⟨_, rfl⟩
        have b11 : Blk W11 p15 25 #[.slice a10 l10 c10] := by rw [hW11, hp15]; exact Blk.new _ _ _
        have K11 := Lib.hid (K9.out.trans (hk10.trans k11))
        have hsm := rSame_any (R9.out.keep (hk10.trans k11)) (hr10.keep k11)
        rw [decide_eq_true rfl] at hsm
        have HSM := Lib.hid hsm
        have x1 := (B9.out.keep (hk10.trans k11)).cell 0 rfl
        have x2 := b11.cell 0 rfl
        rw [hW11] at x1 x2
        rw [hp15] at x2
        have HW11 := Lib.hid hW11; have HP15 := Lib.hid hp15
        have q3 : ((E : Int) != (E : Int)) = false := by simp
        clear hr10 hk10 hW11 k11 hp15 b11 hsm x0
        go_wp2_with fail
        rw [← HW11.out]
        refine HSM.out.mono ?_
        rintro e w12 ⟨rfl, hk12⟩
        have K12 := Lib.hid (K11.out.trans hk12)
        have HA3 := Lib.hid (HIN.out w12 _ _ fa D (HMX.out w12 (HKW.out.trans K12.out)) (HR7.out.keep K12.out) (HCW.out.keep K12.out) HDL.out)
        have x0 := (B7.out.keep K12.out).cell 0 rfl
        clear hk12 x1 x2 q3
        go_wp2_with fail
        refine HA3.out.mono ?_
        rintro e w13 ⟨u13, rfl, hu13, -, hk13⟩
        obtain ⟨a13, c13, hv13, -, -, -⟩ := hu13.open3
        obtain ⟨E2, hE2⟩ : ∃ E, E = (invA fa D).1 := ⟨_, rfl⟩
        obtain ⟨D2, hD2⟩ : ∃ E, E = (invA fa D).2 := ⟨_, rfl⟩
        rw [← hD2] at hu13 hv13
        rw [← hE2]
        obtain ⟨n2, hn2⟩ : ∃ n, n = D2.length := ⟨_, rfl⟩
        rw [← hn2] at hv13
        subst hv13
        have K13 := Lib.hid (K12.out.trans hk13)
        have HU13 := Lib.hid hu13; have HE2 := Lib.hid hE2; have HD2 := Lib.hid hD2; have HN2 := Lib.hid hn2
        have HA4 := Lib.hid (rInvert_any (HR7.out.keep K13.out) (HCW.out.keep K13.out) HDL.out)
        have x0 := (B7.out.keep K13.out).cell 0 rfl
        clear hu13 hk13 hE2 hD2 hn2
        go_wp2_with fail
        refine HA4.out.mono ?_
        rintro e w14 ⟨u14, rfl, hu14, -, hk14⟩
        obtain ⟨a14, c14, hv14, -, -, -⟩ := hu14.open3
        rw [← HD2.out] at hu14 hv14
        rw [← HN2.out] at hv14
        rw [← HE2.out]
        subst hv14
        have K14 := Lib.hid (K13.out.trans hk14)
        have hs := SameC_any (HU13.out.keep hk14) hu14 (by rw [HD2.out]; exact invA_most _ _) (by rw [HD2.out]; exact invA_most _ _)
        rw [decide_eq_true rfl] at hs
        have HS := Lib.hid hs
        have q4 : ((E2 : Int) != (E2 : Int)) = false := by simp
        clear hu14 hk14 hs x0
        go_wp2_with fail
        refine HS.out.mono ?_
        rintro e w15 ⟨rfl, hk15⟩
        have HI15 := Lib.hid (HI7.out.keep (K14.out.trans hk15))
        clear hk15 q4
        go_wp2_with fail
        go_roundw
        case rel => exact ⟨k + 1, by go_num, by omega, HI15.out⟩
        case measure => (first | (simp [intOf]; omega) | simp [intOf])
    · have i1 : (3 : Int) ≤ (k : Int) := by omega
      have HA := Lib.hid (HAW.out wy (HMX.out wy hI.tq.base))
      have HKY := Lib.hid hI.tq.base
      clear hI hk hk3
      go_wp2_with fail
      refine HA.out.mono ?_
      rintro e w7 ⟨rfl, hk7⟩
      have K7 := Lib.hid ((HKR.out.trans HKY.out).trans hk7)
      clear hk7
      go_wp2_with fail
      go_ret
      exact ⟨rfl, K7.out⟩
theorem fdApplies_all (HDC : DiffC) (HAC : ApplyC) (HIC : InvertC) {zs : List Int} {v vr vo : Value} {fr : List Fl} {odd : List Ch} {w : World} (hz : SlI w v zs) (hr : Rw w vr fr) (hodd : Cw w vo odd) (hm : MX w) :
    Calls Tryz.prog 4 #[v, .agg #[vr], vo] w fun e w' => e = .returned (.bool true) ∧ Kp w w' := by
  by_cases h : odd.length ≤ 6
  · exact fdApplies_any HDC HAC HIC hz hr hodd h hm
  · exact fdApplies_long HDC HAC HIC hz hr hodd (by omega) hm
theorem fdApplies_row (HDC : DiffC) (HAC : ApplyC) (HIC : InvertC) {w : World} (hm : MX w) {v : Value} {zs : List Int} (hs : SlI w v zs) {u : Value} {fs : List Fl} (hr : Rw w u fs) {x : Value} {odd : List Ch} (ho : Cw w x odd) : Calls Tryz.prog 4 #[v, .agg #[u], x] w fun e w' => e = .returned (.bool true) ∧ Kp w w' := fdApplies_all HDC HAC HIC hs hr ho hm
end By
end Go.Proofs.YtfobogcccbddbaaGreatDoor

