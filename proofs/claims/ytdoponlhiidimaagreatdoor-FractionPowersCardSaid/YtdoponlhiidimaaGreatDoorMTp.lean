/- The tape of small numbers that the laws draw from: Fold, Next. Conditions: the tape lies in memory as it is named, and has been read fewer than a million times. -/
import Derived.Test.YtdoponlhiidimaaGreatDoorMCa
import Derived.IntWalk
import Derived.Laws.BitsAllLaws
import Derived.Laws.BitsLemmas
namespace Go.Proofs.YtdoponlhiidimaaGreatDoor
open Go.RowKit LimbN
set_option linter.unusedVariables false
set_option linter.unusedSimpArgs false

theorem cellK {w w' : World} {a : Addr} {v : Value} (h : w.cell? a = some v) (hk : Kp w w') : w'.cell? a = some v := (hk.cell (World.block_lt_of_cell? w a h)).trans h
/-- Block g is just these cells. -/
def Blk (w : World) (g : Nat) (t : TypeId) (cs : Array Value) : Prop := w.heap[g]? = some (.cells cs t (0, 0))
theorem Blk.cell {w : World} {g : Nat} {t : TypeId} {cs : Array Value} (h : Blk w g t cs) (i : Nat) {v : Value} (hv : cs[i]? = some v) : w.cell? ⟨g, i, none⟩ = some v := (cell_of_row w g i cs t (0, 0) h).trans hv
theorem Blk.free {w : World} {g : Nat} {t : TypeId} {cs : Array Value} (h : Blk w g t cs) (i : Nat) : w.frozen? ⟨g, i, none⟩ = false := frozen_of_row w g i _ t h
theorem Blk.lt {w : World} {g : Nat} {t : TypeId} {cs : Array Value} (h : Blk w g t cs) : g < w.heap.size := lt_of_block h
theorem Blk.new (w : World) (t : TypeId) (cs : Array Value) : Blk (w.alloc (.cells cs t)) w.heap.size t cs := heap_alloc_new w _
theorem Blk.keep {w w' : World} {g : Nat} {t : TypeId} {cs : Array Value} (h : Blk w g t cs) (hk : Kp w w') : Blk w' g t cs := (hk.block g h.lt).trans h
theorem Blk.other {w w' : World} {g g' : Nat} {t : TypeId} {cs : Array Value} (h : Blk w g t cs) (ho : Only g' w w') (hne : g ≠ g') : Blk w' g t cs := (ho.block g hne).trans h
theorem Blk.drewN {w : World} {g : Nat} {t : TypeId} {cs : Array Value} (h : Blk w g t cs) (n : Nat) : Blk (w.drewN n) g t cs := h
theorem Blk.set {w : World} {g : Nat} {t : TypeId} {cs : Array Value} (h : Blk w g t cs) (i : Nat) (u : Value) : Blk (w.setCell ⟨g, i, none⟩ u) g t (cs.setIfInBounds i u) := heap_setCell_same w g i _ t u h

/-- A slice that reads as 64-bit integers. -/
def AtI (w : World) (ao : Option Addr) (zs : List Int) : Prop :=
  zs = [] ∨ ∃ b off, ao = some ⟨b, off, none⟩ ∧ ∀ i : Nat, i < zs.length → w.cell? ⟨b, off + i, none⟩ = some (.int .i64 (zs[i]?.getD 0))
structure SlI (w : World) (v : Value) (zs : List Int) : Prop where
  ex : ∃ ao cap, v = .slice ao zs.length cap ∧ zs.length ≤ cap ∧ cap ≤ maxLen ∧ AtI w ao zs
  lt : ∀ i : Nat, -9223372036854775808 ≤ zs[i]?.getD 0 ∧ zs[i]?.getD 0 ≤ 9223372036854775807
  sm : zs.length ≤ 17592186044416
theorem AtI.keep {w w' : World} {ao : Option Addr} {zs : List Int} (h : AtI w ao zs) (hk : Kp w w') : AtI w' ao zs := by
  rcases h with rfl | ⟨b, off, rfl, h⟩
  · exact .inl rfl
  · exact .inr ⟨b, off, rfl, fun i hi => cellK (h i hi) hk⟩
theorem SlI.keep {w w' : World} {v : Value} {zs : List Int} (h : SlI w v zs) (hk : Kp w w') : SlI w' v zs := by
  obtain ⟨⟨ao, cap, h1, h2, h3, h4⟩, hl, hs⟩ := h
  exact ⟨⟨ao, cap, h1, h2, h3, h4.keep hk⟩, hl, hs⟩

/-- Only block g has changed, and new memory was made. -/
abbrev Gr (g : Nat) (w w' : World) : Prop := w.grownBy w' (some g)
theorem Gr.refl (g : Nat) (w : World) : Gr g w w := World.grownBy.refl w _
theorem Gr.trans {g : Nat} {a b c : World} (h : Gr g a b) (k : Gr g b c) : Gr g a c :=
  ⟨k.os.trans h.os, k.tape.trans h.tape, k.output.trans h.output, Nat.le_trans h.size k.size, fun i hi hne => (k.block i (Nat.lt_of_lt_of_le hi h.size) hne).trans (h.block i hi hne)⟩
theorem Only.gr {g : Nat} {a b : World} (h : Only g a b) : Gr g a b := ⟨h.os, h.tape, h.output, Nat.le_of_eq h.size, fun i _ hne => h.block i (fun e => hne (by rw [e]))⟩
theorem Kp.gr {a b : World} (h : Kp a b) (g : Nat) : Gr g a b := ⟨h.os, h.tape, h.output, h.size, fun i hi _ => h.block i hi⟩
theorem Gr.kp {g : Nat} {a b c : World} (h : Gr g b c) (hk : Kp a b) (hg : a.heap.size ≤ g) : Kp a c :=
  Below.trans hk ⟨h.os, h.tape, h.output, h.size, fun k hk' => h.block k (Nat.lt_of_lt_of_le hk' hk.size) (fun e => by injection e; omega)⟩
theorem Gr.by {g : Nat} {a b c : World} {row : Option Nat} (h : Gr g a b) (k : b.grownBy c row) (hr : ∀ r, row = some r → a.heap.size ≤ r) : Gr g a c :=
  ⟨k.os.trans h.os, k.tape.trans h.tape, k.output.trans h.output, Nat.le_trans h.size k.size, fun i hi hne => (k.block i (Nat.lt_of_lt_of_le hi h.size) (fun e => by have := hr _ e.symm; omega)).trans (h.block i hi hne)⟩
theorem Blk.by {w w' : World} {r : Nat} {t : TypeId} {cs : Array Value} {row : Option Nat} (h : Blk w r t cs) (hg : w.grownBy w' row) (hne : some r ≠ row) : Blk w' r t cs := (hg.block r h.lt hne).trans h

/-- The tape in block g. -/
structure Tp (w0 w : World) (g : Nat) (at' : Nat) : Prop where
  ex : ∃ ao len cap zs, SlI w0 (.slice ao len cap) zs ∧ Blk w g 34 #[.slice ao len cap, .int .i64 (at' : Nat)]
  kp : Kp w0 w
  ge : w0.heap.size ≤ g
theorem Tp.gr {w0 w w' : World} {g at' r : Nat} (h : Tp w0 w g at') (hg : w.grownBy w' (some r)) (hr : w0.heap.size ≤ r) (hne : g ≠ r) : Tp w0 w' g at' := by
  obtain ⟨ao, len, cap, zs, hs, hb⟩ := h.ex
  exact ⟨⟨ao, len, cap, zs, hs, hb.by hg (fun e => hne (by injection e))⟩, Gr.kp hg h.kp hr, h.ge⟩
theorem Tp.keep {w0 w w' : World} {g at' : Nat} (h : Tp w0 w g at') (hk : Kp w w') : Tp w0 w' g at' := by
  obtain ⟨ao, len, cap, zs, hs, hb⟩ := h.ex
  exact ⟨⟨ao, len, cap, zs, hs, hb.keep hk⟩, Kp.trans h.kp hk, h.ge⟩
theorem Tp.by {w0 w w' : World} {g at' : Nat} {row : Option Nat} (h : Tp w0 w g at') (hg : w.grownBy w' row) (hr : ∀ r, row = some r → w0.heap.size ≤ r ∧ g ≠ r) : Tp w0 w' g at' := by
  obtain ⟨ao, len, cap, zs, hs, hb⟩ := h.ex
  refine ⟨⟨ao, len, cap, zs, hs, hb.by hg (fun e => (hr g e.symm).2 rfl)⟩, ?_, h.ge⟩
  exact Below.grown h.kp hg h.kp.size (fun k hk => (hr k hk).1)

set_option maxRecDepth 100000 in
set_option maxHeartbeats 400000 in
theorem Fold_any (v : Int) (hv : -9223372036854775808 ≤ v ∧ v ≤ 9223372036854775807) (n : Nat) (hn : 2 ≤ n) (hn2 : n ≤ 1000000) (w : World) :
    Calls Tryz.prog 24 #[.int .i64 v, .int .i64 n] w fun e w' => (∃ r : Nat, r < n ∧ e = .returned (.int .i64 r)) ∧ w = w' := by
  obtain ⟨h1, h2⟩ := hv
  by_cases h : v < 0
  · obtain ⟨u, hu⟩ : ∃ u : Nat, v = -(u : Int) := ⟨(-v).toNat, by omega⟩
    subst hu
    have ht : (-(u : Int)).tmod (n : Int) = -((u % n : Nat) : Int) := by rw [Int.neg_tmod, Int.natCast_emod]; rfl
    have hlt : u % n < n := Nat.mod_lt _ (by omega)
    obtain ⟨m, hm⟩ : ∃ m, m = u % n := ⟨_, rfl⟩
    rw [← hm] at ht hlt
    have HT := Lib.hid ht
    clear hm ht
    by_cases h0 : m = 0
    · subst h0
      have ht : (-(u : Int)).tmod (n : Int) = 0 := by rw [HT.out]; rfl
      go_enter Tryz.func24, Tryz.ntmps24
      go_wp2_with fail
      go_ret
      exact ⟨⟨0, by omega, rfl⟩, rfl⟩
    · have ht := HT.out
      go_enter Tryz.func24, Tryz.ntmps24
      go_wp2_with fail
      go_ret
      exact ⟨⟨n - m, by omega, ret_int (by omega)⟩, rfl⟩
  · obtain ⟨u, hu⟩ : ∃ u : Nat, v = (u : Int) := ⟨v.toNat, by omega⟩
    subst hu
    have hlt : u % n < n := Nat.mod_lt _ (by omega)
    have HLT := Lib.hid hlt
    clear hlt
    go_enter Tryz.func24, Tryz.ntmps24
    go_wp2_with fail
    go_ret
    exact ⟨⟨u % n, HLT.out, ret_int (by simp)⟩, rfl⟩

theorem Fold_one (v : Int) (w : World) : Calls Tryz.prog 24 #[.int .i64 v, .int .i64 1] w fun e w' => e = .returned (.int .i64 0) ∧ w = w' := by
  go_enter Tryz.func24, Tryz.ntmps24
  go_wp2_with fail
  go_ret
  exact ⟨rfl, rfl⟩
theorem Fold_pos (v : Int) (hv : -9223372036854775808 ≤ v ∧ v ≤ 9223372036854775807) (n : Nat) (hn : 1 ≤ n) (hn2 : n ≤ 1000000) (w : World) :
    Calls Tryz.prog 24 #[.int .i64 v, .int .i64 n] w fun e w' => (∃ r : Nat, r < n ∧ e = .returned (.int .i64 r)) ∧ w = w' := by
  rcases Nat.lt_or_ge n 2 with h | h
  · obtain rfl : n = 1 := by omega
    exact (Fold_one v w).mono fun e w' hq => ⟨⟨0, by omega, hq.1⟩, hq.2⟩
  · exact Fold_any v hv n h hn2 w
set_option maxRecDepth 100000 in
set_option maxHeartbeats 1000000 in
theorem TNext_any {w0 w : World} {g at' : Nat} (ht : Tp w0 w g at') (ha : at' < 1000000) (n : Nat) (hn : 1 ≤ n) (hn2 : n ≤ 1000000) :
    Calls Tryz.prog 8 #[.pointer (some ⟨g, 0, none⟩), .int .i64 n] w fun e w' => (∃ r : Nat, r < n ∧ e = .returned (.int .i64 r)) ∧ Tp w0 w' g (at' + 1) ∧ Only g w w' := by
  obtain ⟨ao, len, cap, zs, hs, hb⟩ := ht.ex
  obtain ⟨⟨ao', cap', e0, hc, hm, hat⟩, hlt, hsm⟩ := hs
  simp only [Value.slice.injEq] at e0
  obtain ⟨rfl, rfl, rfl⟩ := e0
  have HFIN : Hid (∀ (n1 : Nat) (w1 : World) (A : Int), A = ((at' + 1 : Nat) : Int) → w1 = ((w.drewN n1).setCell ⟨g, 1, none⟩ (.int .i64 A)) → Tp w0 w1 g (at' + 1) ∧ Only g w w1) := by
    intro n1 w1 A hA hw1
    subst hA hw1
    have ho : Only g w ((w.drewN n1).setCell ⟨g, 1, none⟩ (.int .i64 ((at' + 1 : Nat) : Int))) := Only.set (Only.drewN (Only.refl g w) n1) 1 _
    exact ⟨⟨⟨ao, zs.length, cap, zs, ⟨⟨ao, cap, rfl, hc, hm, hat⟩, hlt, hsm⟩, (hb.drewN n1).set 1 _⟩, Only.kp ht.kp ho ht.ge, ht.ge⟩, ho⟩
  have c0 := hb.cell 0 rfl; have c1 := hb.cell 1 rfl; have f1 := hb.free 1
  obtain ⟨len, hlen⟩ : ∃ len, len = zs.length := ⟨_, rfl⟩
  rw [← hlen] at c0 hc hsm
  by_cases hal : at' < len
  · obtain ⟨b, off, rfl, hcell⟩ : ∃ b off, ao = some ⟨b, off, none⟩ ∧ ∀ i : Nat, i < zs.length → w0.cell? ⟨b, off + i, none⟩ = some (.int .i64 (zs[i]?.getD 0)) := by
      rcases hat with h | h
      · rw [h] at hlen; simp at hlen; omega
      · exact h
    have cz := cellK (hcell at' (by omega)) ht.kp
    have hz := hlt at'
    obtain ⟨z, ez⟩ : ∃ z, z = zs[at']?.getD 0 := ⟨_, rfl⟩
    rw [← ez] at cz hz
    clear ez hcell hat hlt ht hb hlen hm
    go_enter Tryz.func8, Tryz.ntmps8
    go_wp2_with fail
    go_quiet (fail)
    go_wp2_with fail
    go_quiet (fail)
    go_wp2_with fail
    refine (Fold_pos z hz n hn hn2 _).mono ?_
    rintro e w' ⟨⟨r, hr, rfl⟩, rfl⟩
    go_wp2_with fail
    go_ret
    exact ⟨⟨r, hr, rfl⟩, HFIN.out _ _ _ (by omega) rfl⟩
  · clear hat hlt ht hb hlen hm
    go_enter Tryz.func8, Tryz.ntmps8
    go_wp2_with fail
    go_quiet (fail)
    go_wp2_with fail
    refine (Fold_pos ((at' : Int) * 7 % 11) (by omega) n hn hn2 _).mono ?_
    rintro e w' ⟨⟨r, hr, rfl⟩, rfl⟩
    go_wp2_with fail
    go_ret
    exact ⟨⟨r, hr, rfl⟩, HFIN.out _ _ _ (by omega) rfl⟩

end Go.Proofs.YtdoponlhiidimaaGreatDoor

/- A small fraction in lowest terms, made by Euclid's loop. Conditions: numerator and denominator are at most a million, the denominator is not 0. -/
namespace Go.Proofs.YtdoponlhiidimaaGreatDoor
open Go.RowKit LimbN
set_option linter.unusedVariables false
set_option linter.unusedSimpArgs false

theorem limbs_small {n : Nat} (h0 : n ≠ 0) (h : n < 4294967296) : limbs n = [n] := by
  rw [limbs_pos h0, Nat.mod_eq_of_lt h, Nat.div_eq_of_lt h]
  rw [show limbs 0 = [] from List.eq_nil_of_length_eq_zero (limbs_len_zero.2 rfl)]
theorem limbs_zero : limbs 0 = [] := List.eq_nil_of_length_eq_zero (limbs_len_zero.2 rfl)
set_option maxRecDepth 100000 in
set_option maxHeartbeats 1000000 in
theorem Small_any {a b : Nat} {w : World} (ha : a ≤ 1000000) (hb0 : 0 < b) (hb : b ≤ 1000000) :
    Calls Tryz.prog 26 #[.int .i64 a, .int .i64 b] w (FrR (FracN.low a b) w) := by
  obtain ⟨w1, hw1, HK1, HB1, hz1⟩ := start2 w 26
  have HW1 := Lib.hid hw1
  have hG : 0 < Nat.gcd a b := Nat.gcd_pos_of_pos_right _ hb0
  obtain ⟨G, eG⟩ : ∃ G, G = Nat.gcd a b := ⟨_, rfl⟩
  rw [← eG] at hG
  have HG := Lib.hid eG
  clear hw1 eG
  go_enter Tryz.func26, Tryz.ntmps26
  go_wp2_with fail
  rw [← HW1.out]
  go_loopw [5, 6] (fun x y wy => ∃ p q : Nat, x = .int .i64 p ∧ y = .int .i64 q ∧ Nat.gcd p q = G ∧ p ≤ 1000000 ∧ q ≤ 1000000 ∧ Drawn w1 wy) (fun _ y _ => (intOf y).toNat)
  case atStart => exact ⟨a, b, rfl, rfl, HG.out.symm, ha, hb, Drawn.refl _⟩
  case round =>
    obtain ⟨p, q, rfl, rfl, hg, hp, hq, hd⟩ := hrel
    rename World => wr
    have HD := Lib.hid hd
    clear hd
    by_cases h0 : q = 0
    · subst h0
      obtain rfl : p = G := by simpa using hg
      obtain ⟨d', ed⟩ : ∃ d', d' = b / p := ⟨_, rfl⟩
      obtain ⟨n', en⟩ : ∃ n', n' = a / p := ⟨_, rfl⟩
      have hdl : d' ≤ 1000000 := by rw [ed]; exact Nat.le_trans (Nat.div_le_self _ _) hb
      have hnl : n' ≤ 1000000 := by rw [en]; exact Nat.le_trans (Nat.div_le_self _ _) ha
      have qd : (b : Int).tdiv (p : Int) = (d' : Int) := by rw [ed]; rfl
      have qn : (a : Int).tdiv (p : Int) = (n' : Int) := by rw [en]; rfl
      have qd' : (b : Int) / (p : Int) = (d' : Int) := by rw [ed]; rfl
      have qn' : (a : Int) / (p : Int) = (n' : Int) := by rw [en]; rfl
      have hp0 : ((p : Int) == 0) = false := beq_eq_false_iff_ne.2 (by omega)
      have hlow : FracN.low a b = (n', d') := by unfold FracN.low; rw [← HG.out, ← en, ← ed]
      have HLOW := Lib.hid hlow
      have hdp : 0 < d' := by rw [ed]; exact Nat.div_pos (Nat.le_of_dvd hb0 (by rw [HG.out]; exact Nat.gcd_dvd_right _ _)) hG
      have hnz : n' = 0 ↔ a = 0 := by
        constructor
        · intro h
          rcases Nat.eq_zero_or_pos a with h0 | h0
          · exact h0
          · have := Nat.div_pos (Nat.le_of_dvd h0 (by rw [HG.out]; exact Nat.gcd_dvd_left _ _)) hG
            rw [HG.out] at en
            omega
        · intro h; rw [en, h]; exact Nat.zero_div _
      have HNZ := Lib.hid hnz
      clear en ed hlow hnz hg
      by_cases ha0 : a = 0
      · subst ha0
        have hz : decide (0 < ((0 : Nat) : Int)) = false := rfl
        obtain rfl : n' = 0 := HNZ.out.2 rfl
        obtain ⟨wT, hwT⟩ : ∃ wT, wT = (wr.alloc (Obj.cells #[.int .u32 (d' : Int)] 43)).alloc (Obj.cells #[.slice none 0 0, .slice (some ⟨wr.heap.size, 0, none⟩) 1 1] 26) := ⟨_, rfl⟩
        have hkT : Kp w1 wT := by rw [hwT]; exact Kp.alloc (Kp.alloc HD.out.kp _) _
        have hT := HB1.out.keep hkT
        have hge : w1.heap.size ≤ wr.heap.size := HD.out.kp.size
        have hsl : Sl wT (.slice (some ⟨wr.heap.size, 0, none⟩) 1 1) (limbs d') := by
          rw [hwT, limbs_small (by omega) (by omega)]
          exact (sl_lit (w := wr) (e := 43) [d'] (Lt.cons (by omega) Lt.nil) (by simp)).keep (Kp.alloc (Kp.refl _) _)
        have hn : New w1.heap.size (.slice (some ⟨wr.heap.size, 0, none⟩) 1 1) := by intro ad l c h; injection h with h1 h2 h3; injection h1 with h1; rw [← h1]; exact hge
        have hP := Put.made hT (.slice none 0 0) (.slice (some ⟨wr.heap.size, 0, none⟩) 1 1)
        have f0 := hT.free 0; have c0 := hT.c0; have f1 := (hT.set0 (.slice none 0 0)).free 1; have c1 := (hT.set0 (.slice none 0 0)).c1
        rw [hwT] at f0 c0 f1 c1
        obtain ⟨wz, hwz⟩ : ∃ wz, wz = (wT.setCell ⟨w.heap.size, 0, none⟩ (.slice none 0 0)).setCell ⟨w.heap.size, 1, none⟩ (.slice (some ⟨wr.heap.size, 0, none⟩) 1 1) := ⟨_, rfl⟩
        rw [← hwz] at hP
        rw [hwT] at hwz
        have HP := Lib.hid hP; have HKT := Lib.hid hkT; have HSL := Lib.hid hsl; have HN := Lib.hid hn; have HWZ := Lib.hid hwz
        clear hP hT hkT hsl hn hwT hge hwz
        go_wp2_with fail
        rw [← HWZ.out]
        clear c0 c1 f0 f1
        have c0 := HP.out.two.c0
        have c1 := HP.out.two.c1
        have FIN2 : FrR (FracN.low 0 b) w (.returned (.agg #[.slice none 0 0, .slice (some ⟨wr.heap.size, 0, none⟩) 1 1])) wz := by
          rw [HLOW.out]
          exact ⟨⟨_, _, rfl, by rw [limbs_zero]; exact Sl.nil _, HSL.out.only HP.out.only (HN.out.offs hz1 _), New.nil _, HN.out.mono HK1.out.size⟩, HP.out.only.kp (Kp.trans HK1.out HKT.out) (Nat.le_refl _)⟩
        exact bodyPost_ret (by simp [results, Tryz.results26, go_sem, c0, c1]) rfl FIN2
      · have hz : decide (0 < (a : Int)) = true := decide_eq_true (by omega)
        have hn0 : n' ≠ 0 := fun h => ha0 (HNZ.out.1 h)
        obtain ⟨wT, hwT⟩ : ∃ wT, wT = ((wr.alloc (Obj.cells #[.int .u32 (d' : Int)] 43)).alloc (Obj.cells #[.slice (some ⟨wr.heap.size + 1 + 1, 0, none⟩) 1 1, .slice (some ⟨wr.heap.size, 0, none⟩) 1 1] 26)).alloc (Obj.cells #[.int .u32 (n' : Int)] 43) := ⟨_, rfl⟩
        have hkT : Kp w1 wT := by rw [hwT]; exact Kp.alloc (Kp.alloc (Kp.alloc HD.out.kp _) _) _
        have hT := HB1.out.keep hkT
        have hge : w1.heap.size ≤ wr.heap.size := HD.out.kp.size
        have hsl : Sl wT (.slice (some ⟨wr.heap.size, 0, none⟩) 1 1) (limbs d') := by
          rw [hwT, limbs_small (by omega) (by omega)]
          exact (sl_lit (w := wr) (e := 43) [d'] (Lt.cons (by omega) Lt.nil) (by simp)).keep (Kp.alloc (Kp.alloc (Kp.refl _) _) _)
        have hn : New w1.heap.size (.slice (some ⟨wr.heap.size, 0, none⟩) 1 1) := by intro ad l c h; injection h with h1 h2 h3; injection h1 with h1; rw [← h1]; exact hge
        have hsn : Sl wT (.slice (some ⟨wr.heap.size + 1 + 1, 0, none⟩) 1 1) (limbs n') := by
          rw [hwT, limbs_small hn0 (by omega)]
          have := sl_lit (w := ((wr.alloc (Obj.cells #[.int .u32 (d' : Int)] 43)).alloc (Obj.cells #[.slice (some ⟨wr.heap.size + 1 + 1, 0, none⟩) 1 1, .slice (some ⟨wr.heap.size, 0, none⟩) 1 1] 26))) (e := 43) [n'] (Lt.cons (by omega) Lt.nil) (by simp)
          simpa [U] using this
        have hnn : New w1.heap.size (.slice (some ⟨wr.heap.size + 1 + 1, 0, none⟩) 1 1) := by intro ad l c h; injection h with h1 h2 h3; injection h1 with h1; rw [← h1]; show _ ≤ wr.heap.size + 1 + 1; omega
        have HSN := Lib.hid hsn; have HNN := Lib.hid hnn
        clear hsn hnn
        have hP := Put.made hT (.slice (some ⟨wr.heap.size + 1 + 1, 0, none⟩) 1 1) (.slice (some ⟨wr.heap.size, 0, none⟩) 1 1)
        have f0 := hT.free 0; have c0 := hT.c0; have f1 := (hT.set0 (.slice (some ⟨wr.heap.size + 1 + 1, 0, none⟩) 1 1)).free 1; have c1 := (hT.set0 (.slice (some ⟨wr.heap.size + 1 + 1, 0, none⟩) 1 1)).c1
        rw [hwT] at f0 c0 f1 c1
        obtain ⟨wz, hwz⟩ : ∃ wz, wz = (wT.setCell ⟨w.heap.size, 0, none⟩ (.slice (some ⟨wr.heap.size + 1 + 1, 0, none⟩) 1 1)).setCell ⟨w.heap.size, 1, none⟩ (.slice (some ⟨wr.heap.size, 0, none⟩) 1 1) := ⟨_, rfl⟩
        rw [← hwz] at hP
        rw [hwT] at hwz
        have HP := Lib.hid hP; have HKT := Lib.hid hkT; have HSL := Lib.hid hsl; have HN := Lib.hid hn; have HWZ := Lib.hid hwz
        clear hP hT hkT hsl hn hwT hge hwz
        go_wp2_with fail
        rw [← HWZ.out]
        clear c0 c1 f0 f1
        have c0 := HP.out.two.c0
        have c1 := HP.out.two.c1
        have FIN2 : FrR (FracN.low a b) w (.returned (.agg #[(.slice (some ⟨wr.heap.size + 1 + 1, 0, none⟩) 1 1), .slice (some ⟨wr.heap.size, 0, none⟩) 1 1])) wz := by
          rw [HLOW.out]
          exact ⟨⟨_, _, rfl, HSN.out.only HP.out.only (HNN.out.offs hz1 _), HSL.out.only HP.out.only (HN.out.offs hz1 _), HNN.out.mono HK1.out.size, HN.out.mono HK1.out.size⟩, HP.out.only.kp (Kp.trans HK1.out HKT.out) (Nat.le_refl _)⟩
        exact bodyPost_ret (by simp [results, Tryz.results26, go_sem, c0, c1]) rfl FIN2
    · have hq0 : ((q : Int) != 0) = true := by simp [h0]
      have hq1 : ((q : Int) == 0) = false := by simp [h0]
      have ht : (p : Int).tmod (q : Int) = ((p % q : Nat) : Int) := rfl
      have hlt := Nat.mod_lt p (Nat.pos_of_ne_zero h0)
      have hg2 : Nat.gcd q (p % q) = G := by rw [← hg, Nat.gcd_comm q, ← Nat.gcd_rec, Nat.gcd_comm]
      obtain ⟨r, hr⟩ : ∃ r, r = p % q := ⟨_, rfl⟩
      rw [← hr] at ht hlt hg2
      have HG2 := Lib.hid hg2
      clear hg2 hr hg
      go_wp2_with fail
      go_quiet (fail)
      go_wp2_with fail
      go_roundw
      case rel => exact ⟨q, r, rfl, rfl, HG2.out, hq, by omega, HD.out.drew _⟩
      case measure => simp [intOf]; omega
end Go.Proofs.YtdoponlhiidimaaGreatDoor
