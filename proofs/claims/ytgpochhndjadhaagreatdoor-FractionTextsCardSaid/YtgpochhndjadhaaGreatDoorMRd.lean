/- strings.Builder's WriteByte at a builder that the call itself has made: what changes. Condition: the builder holds fewer than a million bytes. -/
import Derived.Test.YtgpochhndjadhaaGreatDoorBuild
import Derived.Test.YtgpochhndjadhaaGreatDoorFrac
import Derived.Test.YtgpochhndjadhaaGreatDoorMCa
import Derived.Deep.LoopGhost
import Derived.Test.YtgpochhndjadhaaGreatDoorFFmt
namespace Go.Proofs.YtgpochhndjadhaaGreatDoor
open Go.RowKit LimbN
set_option linter.unusedVariables false
set_option linter.unusedSimpArgs false

/-- The builder in block b, with its buffer v. -/
structure Bd (w : World) (b : Nat) (p v : Value) (l : List UInt8) : Prop where
  blk : w.heap[b]? = some (.cells #[p, v] 114 (0, 0))
  pp : p = .pointer none ∨ p = .pointer (some ⟨b, 0, none⟩)
  own : w.ownsRow b 5 1 v l.length (Lib.byteCells l)
  ne : v.ownBlock ≠ some b
theorem owns_kept {w w' : World} {B : Nat} {e : TypeId} {v : Value} {n : Nat} {cs : List Value} (h : w.ownsRow B e 1 v n cs) (hk : ∀ g, v.ownBlock = some g → w'.heap[g]? = w.heap[g]?) : w'.ownsRow B e 1 v n cs := by
  refine ⟨h.1, ?_⟩
  rcases h.2 with hn | ⟨g, cap, cur, he, hb, hg, r⟩
  · exact .inl hn
  · exact .inr ⟨g, cap, cur, he, hb, by rw [hk g (by rw [he]; rfl)]; exact hg, r⟩
theorem Bd.lt {w : World} {b : Nat} {p v : Value} {l : List UInt8} (h : Bd w b p v l) : b < w.heap.size := lt_of_block h.blk
theorem Bd.keep {w w' : World} {b : Nat} {p v : Value} {l : List UInt8} (h : Bd w b p v l) (hk : Kp w w') : Bd w' b p v l := by
  refine ⟨(hk.block b h.lt).trans h.blk, h.pp, owns_kept h.own (fun g hg => ?_), h.ne⟩
  rcases h.own.2 with ⟨hv, _⟩ | ⟨g', cap, cur, he, hb, hg', r⟩
  · rw [hv] at hg; simp [Value.ownBlock] at hg
  · rw [he] at hg
    simp [Value.ownBlock] at hg
    subst hg
    exact hk.block _ (lt_of_block hg')
theorem Bd.ownlt {w : World} {b : Nat} {p v : Value} {l : List UInt8} (h : Bd w b p v l) {g : Nat} (hg : v.ownBlock = some g) : b ≤ g ∧ g < w.heap.size := by
  rcases h.own.2 with ⟨hv, _⟩ | ⟨g', cap, cur, he, hb, hg', r⟩
  · rw [hv] at hg; simp [Value.ownBlock] at hg
  · rw [he] at hg
    simp [Value.ownBlock] at hg
    subst hg
    exact ⟨hb, lt_of_block hg'⟩
theorem Bd.at {w : World} {b : Nat} {p v : Value} {l : List UInt8} (h : Bd w b p v l) : Lib.BuilderAt 114 5 b b p (Lib.byteCells l) w :=
  ⟨Nat.le_refl _, v, h.blk, by rw [Lib.byteCells_length]; exact h.own, h.ne⟩
theorem Bd.is {w : World} {b : Nat} {p v : Value} {l : List UInt8} (h : Bd w b p v l) : Lib.IsBuilder 114 5 b b (Lib.byteCells l) w := by
  have := h.at
  rcases h.pp with rfl | rfl
  · exact .inl this
  · exact .inr this
theorem Bd.new (w : World) : Bd (w.alloc (.cells #[.pointer none, .slice none 0 0] 114)) w.heap.size (.pointer none) (.slice none 0 0) [] :=
  ⟨heap_alloc_new w _, .inl rfl, World.ownsRow_nil _ _ _ _, by simp [Value.ownBlock]⟩
/-- What a write changes: the builder's block, its buffer's block, and new memory. -/
structure Fr1 (b : Nat) (v v' : Value) (w w' : World) : Prop where
  os : w'.os = w.os
  tape : w'.tape = w.tape
  output : w'.output = w.output
  size : w.heap.size ≤ w'.heap.size
  block : ∀ k, k < w.heap.size → k ≠ b → v.ownBlock ≠ some k → w'.heap[k]? = w.heap[k]?
theorem copyCheck_bd {w : World} {b : Nat} {p v : Value} {l : List UInt8} (h : Bd w b p v l) :
    Calls Tryz.prog 142 #[.pointer (some ⟨b, 0, none⟩)] w fun e w' => e = .returned (.tuple #[]) ∧ Bd w' b (.pointer (some ⟨b, 0, none⟩)) v l ∧ Only b w w' := by
  rcases h.pp with rfl | rfl
  · refine (copyCheck_fresh b w h.at.cell0 h.at.shape h.at.frozen0).mono ?_
    rintro e w' ⟨rfl, rfl⟩
    have ho := (Only.refl b w).set 0 (.pointer (some ⟨b, 0, none⟩))
    exact ⟨rfl, ⟨by rw [heap_setCell_same w b 0 _ _ _ h.blk]; rfl, .inr rfl, owns_kept h.own (fun g hg => ho.block g (fun e => h.ne (by rw [hg, e]))), h.ne⟩, ho⟩
  · refine (copyCheck_used b w h.at.cell0).mono ?_
    rintro e w' ⟨rfl, rfl⟩
    exact ⟨rfl, h, Only.refl _ _⟩
set_option maxHeartbeats 2000000 in
set_option maxRecDepth 100000 in
theorem WriteByte_bd {w : World} {b : Nat} {p v : Value} {l : List UInt8} (h : Bd w b p v l) (c : UInt8) (hl : l.length ≤ 1000000) :
    Calls Tryz.prog 110 #[.pointer (some ⟨b, 0, none⟩), .int .u8 (c.toNat : Nat)] w fun e w' => e = .returned .nilIface ∧ ∃ v', Bd w' b (.pointer (some ⟨b, 0, none⟩)) v' (l ++ [c]) ∧ Fr1 b v v' w w' := by
  obtain ⟨i0, hi, hz0, hz1, hz2⟩ := info_parts info8
  have H := Lib.hid h
  obtain ⟨n, hn⟩ : ∃ n, n = c.toNat := ⟨_, rfl⟩
  rw [← hn]
  have HN := Lib.hid hn
  have hbl := h.lt
  clear h hn
  go_enter Tryz.func110, Tryz.ntmps110
  go_wp2_with fail
  refine (copyCheck_bd H.out).mono ?_
  rintro e w1 ⟨rfl, h1, ho⟩
  have HO := Lib.hid ho
  have hb1 := h1.lt
  have hk := Kp.alloc (Kp.refl w1) (Obj.cells #[.int .u8 (n : Int)] 5)
  have h2 := h1.keep hk
  have c0 : w1.cell? ⟨b, 0, none⟩ = some (.pointer (some ⟨b, 0, none⟩)) := by rw [Lib.cell_of_heap h1.blk]; rfl
  have c1 : w1.cell? ⟨b, 1, none⟩ = some v := by rw [Lib.cell_of_heap h1.blk]; rfl
  have hown := h2.own
  have H1 := Lib.hid h1; have H2 := Lib.hid h2
  have hnews : ∀ j u, [Value.int .u8 (n : Int)][j]? = some u → (w1.alloc (Obj.cells #[.int .u8 (n : Int)] 5)).cell? ((⟨w1.heap.size, 0, none⟩ : Addr).add j) = some u := by
    intro j u hu
    match j, hu with
    | 0, hu =>
      simp at hu
      subst hu
      show (w1.alloc _).cell? ⟨w1.heap.size, 0, none⟩ = _
      rw [cell_of_row _ w1.heap.size 0 _ 5 (0, 0) (heap_alloc_new w1 _)]
      rfl
    | j + 1, hu => simp at hu
  have HNEWS := Lib.hid hnews; have HOWN := Lib.hid hown
  clear h1 h2 ho hnews hown
  go_wp2_with (at_builtin; refine wpList_append_own _ rfl (.tmp 11) (.tmp 13) 112 rfl b 5 i0 (.int .u8 0) 1 1 Tryz.underlying112 hi hz0 hz1 hz2 rfl (by decide) v l.length (Lib.byteCells l) rfl HOWN.out ⟨w1.heap.size, 0, none⟩ 1 1 [.int .u8 (n : Int)] rfl rfl HNEWS.out (by intro u hu; simp at hu; subst hu; rfl) (by unfold maxLen; omega) (by omega) (by simp; omega) ?_)
  intro v' w2 hown' hgrow _
  have hb2 : w2.heap[b]? = some (.cells #[.pointer (some ⟨b, 0, none⟩), v] 114 (0, 0)) := by
    rw [hgrow.block b (by simp; omega) (fun e => H2.out.ne e.symm)]
    exact H2.out.blk
  have d0 : w2.cell? ⟨b, 0, none⟩ = some (.pointer (some ⟨b, 0, none⟩)) := by rw [Lib.cell_of_heap hb2]; rfl
  have d1 : w2.cell? ⟨b, 1, none⟩ = some v := by rw [Lib.cell_of_heap hb2]; rfl
  have f1 : w2.frozen? ⟨b, 1, none⟩ = false := Lib.frozen_of_heap hb2 1
  obtain ⟨ao, n', cap, rfl⟩ : ∃ ao n' cap, v' = .slice ao n' cap := by
    rcases hown'.2 with ⟨hv, _⟩ | ⟨g, cap, cur, hv, _⟩
    · exact ⟨_, _, _, hv⟩
    · exact ⟨_, _, _, hv⟩
  have hs := HO.out.size
  have hz1' : w1.heap.size + 1 ≤ w2.heap.size := by have := hgrow.size; simpa using this
  obtain ⟨wz, hwz⟩ : ∃ wz, wz = w2.setCell ⟨b, 1, none⟩ (.slice ao n' cap) := ⟨_, rfl⟩
  have hne' : (Value.slice ao n' cap).ownBlock ≠ some b := by
    intro e
    rcases hown'.2 with ⟨hv, _⟩ | ⟨g, cap', cur, hv, hbg, hg, _⟩
    · rw [hv] at e; simp [Value.ownBlock] at e
    · rw [hv] at e
      simp [Value.ownBlock] at e
      subst e
      rw [hb2] at hg
      injection hg with hg
      injection hg with _ ht _
      exact absurd ht (by decide)
  have FIN : ∃ v', Bd wz b (.pointer (some ⟨b, 0, none⟩)) v' (l ++ [c]) ∧ Fr1 b v v' w wz := by
    have hoz := (Only.refl b w2).set 1 (.slice ao n' cap)
    rw [← hwz] at hoz
    refine ⟨.slice ao n' cap, ⟨?_, .inr rfl, ?_, hne'⟩, ⟨?_, ?_, ?_, ?_, ?_⟩⟩
    · rw [hwz, heap_setCell_same w2 b 1 _ _ _ hb2]; rfl
    · have e1 : Lib.byteCells (l ++ [c]) = Lib.byteCells l ++ [Value.int .u8 (n : Int)] := by rw [HN.out]; simp [Lib.byteCells]
      have e2 : (l ++ [c]).length = l.length + 1 := by simp
      rw [e1, e2]
      exact owns_kept hown' (fun g hg => hoz.block g (fun e => hne' (by rw [hg, e])))
    · rw [hoz.os, hgrow.os]; exact HO.out.os
    · rw [hoz.tape, hgrow.tape]; exact HO.out.tape
    · rw [hoz.output, hgrow.output]; exact HO.out.output
    · rw [← hoz.size]; omega
    · intro k hk hkb hkv
      rw [hoz.block k hkb, hgrow.block k (by simp; omega) (fun e => hkv e.symm)]
      have := (Kp.alloc (Kp.refl w1) (Obj.cells #[.int .u8 (n : Int)] 5)).block k (by omega)
      rw [this]
      exact HO.out.block k hkb
  have HF := Lib.hid FIN; have HWZ := Lib.hid hwz
  clear FIN hwz hne' hz1' hs hown' hgrow hb2
  go_wp2
  go_ret
  rw [← HWZ.out]
  exact ⟨rfl, HF.out⟩
theorem Fr1.kp {b : Nat} {v v' : Value} {w0 w w' : World} (h : Fr1 b v v' w w') (hk : Kp w0 w) (hb : w0.heap.size ≤ b) (hv : ∀ k, v.ownBlock = some k → b ≤ k) : Kp w0 w' :=
  Below.trans hk ⟨h.os, h.tape, h.output, h.size, fun k hk' => h.block k (Nat.lt_of_lt_of_le hk' hk.size) (by omega) (fun e => by have := hv k e; omega)⟩
theorem Sl.fr1 {b : Nat} {v v' vx : Value} {w w' : World} {xs : List Nat} (h : Sl w vx xs) (hf : Fr1 b v v' w w') (hb : Off b vx xs) (hv : ∀ k, v.ownBlock = some k → Off k vx xs) : Sl w' vx xs := by
  obtain ⟨⟨ao, cap, h1, h2, h3, h4, h5⟩, hl, hs⟩ := h
  refine ⟨⟨ao, cap, h1, h2, h3, ?_, h5⟩, hl, hs⟩
  rcases h4 with rfl | ⟨g, off, rfl, h⟩
  · exact .inl rfl
  · refine .inr ⟨g, off, rfl, fun i hi => ?_⟩
    have hx : xs ≠ [] := fun e => by subst e; simp at hi
    have h1' := h i hi
    have e1 : g ≠ b := hb hx _ _ _ h1
    have e2 : v.ownBlock ≠ some g := fun e => hv g e hx _ _ _ h1 rfl
    exact (World.cell?_of_block (hf.block g (World.block_lt_of_cell? w _ h1') e1 e2)).trans h1'
end Go.Proofs.YtgpochhndjadhaaGreatDoor

/- The digits after the point. Conditions: the rest is below the denominator, which has at most 128 limbs, and at most 31 digits are asked for. -/
namespace Go.Proofs.YtgpochhndjadhaaGreatDoor
open Go.RowKit LimbN
set_option linter.unusedVariables false
set_option linter.unusedSimpArgs false

/-- The rest behind j digits, and the digits. -/
def remD (r d j : Nat) : Nat := r * 10 ^ j % d
def digB (r d j : Nat) : UInt8 := UInt8.ofNat (48 + 10 * remD r d j / d)
def digsB (r d k : Nat) : List UInt8 := (List.range k).map (digB r d)
theorem digsB_succ (r d k : Nat) : digsB r d (k + 1) = digsB r d k ++ [digB r d k] := by unfold digsB; rw [List.range_succ, List.map_append]; rfl
theorem digsB_len (r d k : Nat) : (digsB r d k).length = k := by simp [digsB]
theorem remD_zero {r d : Nat} (h : r < d) : remD r d 0 = r := by unfold remD; rw [Nat.pow_zero, Nat.mul_one, Nat.mod_eq_of_lt h]
theorem remD_succ (r d j : Nat) : 10 * remD r d j % d = remD r d (j + 1) := by
  unfold remD
  rw [Nat.pow_succ, ← Nat.mul_assoc, Nat.mul_comm 10, Nat.mod_mul_mod]
theorem remD_lt {r d : Nat} (hd : 0 < d) (j : Nat) : remD r d j < d := Nat.mod_lt _ hd
theorem dig_lt {r d : Nat} (hd : 0 < d) (j : Nat) : 10 * remD r d j / d < 10 := by
  rw [Nat.div_lt_iff_lt_mul hd]
  exact Nat.mul_lt_mul_of_pos_left (remD_lt hd j) (by decide)
theorem digB_nat {r d : Nat} (hd : 0 < d) (j : Nat) : (digB r d j).toNat = 48 + 10 * remD r d j / d := by
  have := dig_lt (r := r) hd j
  unfold digB
  rw [UInt8.toNat_ofNat']
  exact Nat.mod_eq_of_lt (by omega)
/-- One more time the rest. -/
theorem times_succ {m d t : Nat} (hd : 0 < d) (hm : m < d) : (t * m % d + m) % d = (t + 1) * m % d ∧ (t + 1) * m / d = t * m / d + if d ≤ t * m % d + m then 1 else 0 := by
  have h1 := Nat.div_add_mod (t * m) d
  have h2 := Nat.mod_lt (t * m) hd
  have e : (t + 1) * m = d * (t * m / d) + (t * m % d + m) := by rw [Nat.add_mul, Nat.one_mul]; omega
  constructor
  · rw [e, Nat.mul_add_mod]
  · rw [e, Nat.mul_add_div hd]
    congr 1
    split
    · rename_i h
      exact Nat.div_eq_of_lt_le (by omega) (by omega)
    · rename_i h
      exact Nat.div_eq_of_lt (by omega)
set_option maxRecDepth 100000 in
set_option maxHeartbeats 4000000 in
theorem decimals_n {r d k : Nat} {vr vd : Value} {w : World} (hr : Sl w vr (limbs r)) (hd : Sl w vd (limbs d)) (hlt : r < d) (ld : (limbs d).length ≤ 128) (hk : k ≤ 31) :
    Calls Tryz.prog 73 #[vr, vd, .int .i64 k] w fun e w' => e = .returned (.string ⟨(digsB r d k).toArray⟩) ∧ Kp w w' := by
  have hd0 : 0 < d := by omega
  have HR := Lib.hid hr; have HD := Lib.hid hd; have HL := Lib.hid hlt; have LD := Lib.hid ld; have HD0 := Lib.hid hd0
  obtain ⟨w1, hw1⟩ : ∃ w1, w1 = w.alloc (Obj.cells #[.pointer none, .slice none 0 0] 114) := ⟨_, rfl⟩
  have hb1 : Bd w1 w.heap.size (.pointer none) (.slice none 0 0) [] := by rw [hw1]; exact Bd.new w
  have HK1 : Hid (Kp w w1) := by show Kp _ _; rw [hw1]; exact Kp.alloc (Kp.refl _) _
  have HB1 := Lib.hid hb1; have HW1 := Lib.hid hw1
  have R0 := Lib.hid (remD_zero hlt)
  clear hr hd hlt ld hb1 hw1 hd0
  go_enter Tryz.func73, Tryz.ntmps73
  go_wp2_with fail
  go_step3
  go_wp2_with fail
  rw [← HW1.out]
  go_step3
  go_wp2_with fail
  go_loopg [0, 14] k (fun g s0 s14 wy => ∃ (j : Nat) (v p : Value), j ≤ k ∧ g = k - j ∧ s14 = .int .i64 j ∧ Sl wy s0 (limbs (remD r d j)) ∧ Bd wy w.heap.size p v (digsB r d j) ∧ Kp w wy)
  case atStart => exact ⟨0, _, _, Nat.zero_le _, rfl, rfl, by rw [R0.out]; exact HR.out.keep HK1.out, HB1.out, HK1.out⟩
  case round =>
    obtain ⟨j, v, p, hj, rfl, rfl, hs, hb, hkp⟩ := hrel
    obtain ⟨v0, hv0⟩ : ∃ v0, v0 = u0 := ⟨_, rfl⟩
    subst hv0
    have HS := Lib.hid hs; have HB := Lib.hid hb; have HKP := Lib.hid hkp
    clear hs hb hkp
    have HJ : Hid (j ≤ k) := hj
    by_cases hjk : j < k
    · obtain ⟨M, hM⟩ : ∃ M, M = remD r d j := ⟨_, rfl⟩
      rw [← hM] at HS
      have hMd : M < d := by rw [hM]; exact remD_lt HD0.out j
      have HM := Lib.hid hM; have HMD := Lib.hid hMd
      have hone : 1 * M % d = M := by rw [Nat.one_mul, Nat.mod_eq_of_lt hMd]
      have hz : 1 * M / d = 0 := by rw [Nat.one_mul, Nat.div_eq_of_lt hMd]
      have HONE := Lib.hid hone; have HZ := Lib.hid hz
      clear hM hMd hone hz
      go_wp2_with fail
      go_loopg [0, 8, 9, 10] 9 (fun g s0 s8 s9 s10 wz => ∃ (t : Nat), s0 = v0 ∧ 1 ≤ t ∧ t ≤ 10 ∧ g = 10 - t ∧ s10 = .int .i64 t ∧ s9 = .int .u8 ((48 + t * M / d : Nat) : Int) ∧ Sl wz s8 (limbs (t * M % d)) ∧ (t ≠ 1 → New wr.heap.size s8) ∧ Kp wr wz)
      case atStart => exact ⟨1, rfl, Nat.le_refl _, by decide, rfl, rfl, by rw [HZ.out]; rfl, by rw [HONE.out]; exact HS.out, fun h => absurd rfl h, Kp.refl _⟩
      case round =>
        obtain ⟨t, h00, ht1, ht2, rfl, rfl, rfl, hs8, hnew, hkz⟩ := hrel
        obtain ⟨s8, hv8⟩ : ∃ s8, s8 = u8 := ⟨_, rfl⟩
        subst hv8
        subst h00
        rename World => wz
        have HS8 := Lib.hid hs8; have HNEW := Lib.hid hnew; have HKZ := Lib.hid hkz
        clear hs8 hnew hkz
        obtain ⟨q, hq⟩ : ∃ q : Nat, q = 48 + t * M / d := ⟨_, rfl⟩
        rw [← hq]
        have HQ := Lib.hid hq
        have hq57 : q ≤ 57 := by
          have : t * M / d < 10 := by
            rw [Nat.div_lt_iff_lt_mul HD0.out]
            exact Nat.lt_of_le_of_lt (Nat.mul_le_mul_right M ht2) (Nat.mul_lt_mul_of_pos_left HMD.out (by decide))
          omega
        clear hq
        by_cases h10 : t = 10
        · subst h10
          have hqd : q = (digB r d j).toNat := by rw [HQ.out, digB_nat HD0.out, HM.out]
          rw [hqd]
          have HN8 := Lib.hid (HNEW.out (by decide))
          clear hqd hq57
          go_wp2_with fail
          refine (WriteByte_bd (HB.out.keep HKZ.out) (digB r d j) (by rw [digsB_len]; omega)).mono ?_
          rintro e w2 ⟨rfl, v', hb', hf⟩
          have hown : ∀ g, v.ownBlock = some g → w.heap.size ≤ g ∧ g < wr.heap.size := fun g hg => HB.out.ownlt hg
          have hsl : Sl w2 s8 (limbs (remD r d (j + 1))) := by
            have h1 := HS8.out
            rw [HM.out, remD_succ] at h1
            exact h1.fr1 hf (HN8.out.offs HB.out.lt _) (fun g hg => HN8.out.offs (hown g hg).2 _)
          rw [← digsB_succ] at hb'
          have hkk : Kp w w2 := hf.kp (Kp.trans HKP.out HKZ.out) (Nat.le_refl _) (fun g hg => (hown g hg).1)
          have H1 := Lib.hid hsl; have H2 := Lib.hid hb'; have H3 := Lib.hid hkk
          clear hsl hb' hkk hf hown
          go_wp2_with fail
          go_roundg (k - (j + 1))
          case measure => omega
          case rel => exact ⟨j + 1, v', _, by omega, rfl, by simp, H1.out, H2.out, H3.out⟩
        · have hT := times_succ (t := t) HD0.out HMD.out
          have HT1 := Lib.hid hT.1; have HT2 := Lib.hid hT.2
          have h10' : ((t : Int) == 10) = false := beq_eq_false_iff_ne.2 (by omega)
          clear hT
          go_wp2_with fail
          refine (addModulo_n HS8.out (HS.out.keep HKZ.out) ((HD.out.keep HKP.out).keep HKZ.out) LD.out (Nat.mod_lt _ HD0.out) (Nat.le_of_lt HMD.out)).mono ?_
          intro e w2 hq2
          obtain ⟨⟨u, rfl, h1, h2⟩, hk2⟩ := hq2
          rw [HT1.out] at h1
          have H1 := Lib.hid h1; have H2 := Lib.hid (h2.mono HKZ.out.size); have H3 := Lib.hid (Kp.trans HKZ.out hk2)
          clear h1 h2 hk2
          by_cases htk : d ≤ t * M % d + M
          · have hq2 : q + 1 = 48 + (t + 1) * M / d := by rw [HQ.out, HT2.out, if_pos htk]; omega
            rw [decide_eq_true htk]
            have HQ2 := Lib.hid hq2
            clear htk hq2
            go_wp2_with fail
            go_roundg (10 - (t + 1))
            case measure => omega
            case rel => exact ⟨t + 1, rfl, by omega, by omega, rfl, by simp, by rw [← HQ2.out]; simp, H1.out, fun _ => H2.out, H3.out⟩
          · have hq2 : q = 48 + (t + 1) * M / d := by rw [HQ.out, HT2.out, if_neg htk, Nat.add_zero]
            rw [decide_eq_false htk]
            have HQ2 := Lib.hid hq2
            clear htk hq2
            go_wp2_with fail
            go_roundg (10 - (t + 1))
            case measure => omega
            case rel => exact ⟨t + 1, rfl, by omega, by omega, rfl, by simp, by rw [← HQ2.out], H1.out, fun _ => H2.out, H3.out⟩
    · obtain rfl : j = k := by omega
      go_wp2_with fail
      refine (Tryz.Builder_String_any w.heap.size w.heap.size (digsB r d j) _ HB.out.is HKP.out.size).mono ?_
      rintro e w2 ⟨rfl, hk2⟩
      have HK2 := Lib.hid (Below.trans HKP.out hk2)
      clear hk2
      go_wp2_with fail
      rw [Exit.noGoto_ret]
      go_ret
      exact ⟨rfl, HK2.out⟩
end Go.Proofs.YtgpochhndjadhaaGreatDoor

/- Round and Floor of a well-formed fraction. Conditions: the slices hold the numbers that are named, of at most 8 limbs, in lowest terms; at most 30 digits are asked for; the library's table of powers of ten holds what its text lays. -/
namespace Go.Proofs.YtgpochhndjadhaaGreatDoor
open Go.RowKit LimbN
set_option linter.unusedVariables false
set_option linter.unusedSimpArgs false

/-- A decimal number's text. -/
def rndL (n d k : Nat) : List UInt8 := Lib.decDigits (n / d) ++ (if k = 0 then [] else 46 :: digsB (n % d) d k)
def rndS (n d k : Nat) : ByteArray := ⟨(rndL n d k).toArray⟩
theorem app_bytes (l m : List UInt8) : (⟨l.toArray⟩ : ByteArray) ++ ⟨m.toArray⟩ = ⟨(l ++ m).toArray⟩ := by
  apply ByteArray.ext
  rw [ByteArray.data_append]
  simp
set_option maxRecDepth 100000 in
set_option maxHeartbeats 2000000 in
theorem Round_n {n d k : Nat} {va vb : Value} {w : World} (l1 : (limbs n).length ≤ 8) (l2 : (limbs d).length ≤ 8) (d0 : d ≠ 0) (hg : Nat.gcd n d = 1) (hk : k ≤ 30) (ha : Sl w va (limbs n)) (hb : Sl w vb (limbs d)) (htab : Tab w) :
    Calls Tryz.prog 31 #[.agg #[va, vb], .int .i64 k] w fun e w' => e = .returned (.tuple #[.string (rndS n d k), .int .i64 0]) ∧ Kp w w' := by
  obtain ⟨ao, al, ac, rfl⟩ := ha.open3
  obtain ⟨bo, bl, bc, rfl⟩ := hb.open3
  obtain ⟨w1, hw1, HK1, HB1, hz1⟩ := box2 w 25 (.slice ao al ac) (.slice bo bl bc)
  have HA := Lib.hid (ha.keep HK1.out); have HB := Lib.hid (hb.keep HK1.out); have HT := Lib.hid (htab.keep HK1.out)
  have c10 := HB1.out.c0; have c11 := HB1.out.c1
  rw [hw1] at c10 c11
  have HW := Lib.hid hw1
  have m1 : (limbs n).length ≤ 128 := Nat.le_trans l1 (by decide)
  have m2 : (limbs d).length ≤ 128 := Nat.le_trans l2 (by decide)
  have HOK := Lib.hid (frOk_n m1 m2 d0 hg)
  have M1 := Lib.hid m1; have M2 := Lib.hid m2; have D0 := Lib.hid d0
  obtain ⟨q, hq⟩ : ∃ q, q = n / d := ⟨_, rfl⟩
  obtain ⟨r, hr⟩ : ∃ r, r = n % d := ⟨_, rfl⟩
  have lq : (limbs q).length ≤ 8 := by rw [hq]; exact Nat.le_trans (limbs_mono (Nat.div_le_self _ _)) l1
  have hrd : r < d := by rw [hr]; exact Nat.mod_lt _ (Nat.pos_of_ne_zero d0)
  have zq := dec_size q 8 (by decide) (limbs_len_le.1 lq)
  have LQ := Lib.hid (Nat.le_trans lq (show 8 ≤ 128 by decide)); have HRD := Lib.hid hrd; have HQ := Lib.hid hq; have HR := Lib.hid hr
  obtain ⟨sq, esq⟩ : ∃ sq, sq = decS q := ⟨_, rfl⟩
  rw [← esq] at zq
  have HSQ := Lib.hid esq
  obtain ⟨S, hS⟩ : ∃ S, S = rndS n d k := ⟨_, rfl⟩
  rw [← hS]
  have HS := Lib.hid hS
  obtain ⟨D, hD⟩ : ∃ D : ByteArray, D = ⟨(digsB r d k).toArray⟩ := ⟨_, rfl⟩
  have zD : D.size = k := by rw [hD]; exact digsB_len r d k
  have HDD := Lib.hid hD
  clear ha hb htab l1 l2 d0 hg m1 m2 hw1 hz1 hq hr lq hrd esq hS hD
  go_enter Tryz.func31, Tryz.ntmps31
  go_wp2_with fail
  rw [← HW.out]
  refine (Check_any HA.out HB.out).mono ?_
  rintro e w2 ⟨rfl, hk2⟩
  rw [HOK.out]
  have HK2 := Lib.hid hk2
  clear hk2 c10 c11
  have c10 := (HB1.out.keep HK2.out).c0; have c11 := (HB1.out.keep HK2.out).c1
  go_wp2_with fail
  refine (fdivide_n (HA.out.keep HK2.out) (HB.out.keep HK2.out) M1.out M2.out D0.out).mono ?_
  intro e w3 hq
  obtain ⟨⟨vq, vr, rfl, h1, h2, -, -⟩, hk3⟩ := hq
  rw [← HQ.out] at h1
  rw [← HR.out] at h2
  have H1 := Lib.hid h1; have H2 := Lib.hid h2; have HK3 := Lib.hid (Kp.trans HK2.out hk3)
  clear h1 h2 hk3 c10 c11
  go_wp2_with fail
  refine (format_n H1.out LQ.out (HT.out.keep HK3.out)).mono ?_
  rintro e w4 ⟨rfl, hk4⟩
  rw [← HSQ.out]
  have HK4 := Lib.hid (Kp.trans HK3.out hk4); have H24 := Lib.hid (H2.out.keep hk4)
  clear hk4
  by_cases h0 : k = 0
  · have hSS : S = sq := by rw [HS.out, HSQ.out]; unfold rndS rndL decS; rw [if_pos h0, List.append_nil, HQ.out]
    have FIN : Hid ((.returned (.tuple #[.string sq, .int .i64 0]) : Ending) = .returned (.tuple #[.string S, .int .i64 0]) ∧ Kp w w4) := ⟨by rw [hSS], Kp.trans HK1.out HK4.out⟩
    subst h0
    clear hSS zD
    go_wp2_with fail
    go_ret2
    exact FIN.out
  · have hSS : S = sq ++ (⟨#[46]⟩ ++ D) := by
      rw [HS.out, HSQ.out, HDD.out]
      unfold rndS rndL decS
      rw [if_neg h0, show (⟨#[46]⟩ : ByteArray) = ⟨[46].toArray⟩ from rfl, app_bytes, app_bytes, HQ.out, HR.out]
      rfl
    have hk0 : decide (0 < (k : Int)) = true := decide_eq_true (by omega)
    have c11 := (HB1.out.keep HK4.out).c1
    have z46 : (⟨#[46]⟩ : ByteArray).size = 1 := rfl
    have hn1 : ¬ (9223372036854775807 < 1 + D.size) := by omega
    have hn2 : ¬ (9223372036854775807 < sq.size + (1 + D.size)) := by omega
    have HSS := Lib.hid hSS
    clear hSS zD zq z46
    go_wp2_with fail
    refine (decimals_n (k := k) H24.out (HB.out.keep HK4.out) HRD.out M2.out (by omega)).mono ?_
    rintro e w5 ⟨rfl, hk5⟩
    rw [← HDD.out]
    have FIN : Hid ((.returned (.tuple #[.string (sq ++ (⟨#[46]⟩ ++ D)), .int .i64 0]) : Ending) = .returned (.tuple #[.string S, .int .i64 0]) ∧ Kp w w5) := ⟨by rw [HSS.out], Kp.trans HK1.out (Kp.trans HK4.out hk5)⟩
    clear hk5 c11
    go_wp2_with fail
    go_ret2
    exact FIN.out
set_option maxRecDepth 100000 in
theorem Floor_n {n d : Nat} {va vb : Value} {w : World} (l1 : (limbs n).length ≤ 8) (l2 : (limbs d).length ≤ 8) (d0 : d ≠ 0) (hg : Nat.gcd n d = 1) (ha : Sl w va (limbs n)) (hb : Sl w vb (limbs d)) :
    Calls Tryz.prog 28 #[.agg #[va, vb]] w fun e w' => (∃ v, e = .returned (.tuple #[v, .int .i64 0]) ∧ Sl w' v (limbs (n / d))) ∧ Kp w w' := by
  obtain ⟨ao, al, ac, rfl⟩ := ha.open3
  obtain ⟨bo, bl, bc, rfl⟩ := hb.open3
  obtain ⟨w1, hw1, HK1, HB1, hz1⟩ := box2 w 25 (.slice ao al ac) (.slice bo bl bc)
  have HA := Lib.hid (ha.keep HK1.out); have HB := Lib.hid (hb.keep HK1.out)
  have c10 := HB1.out.c0; have c11 := HB1.out.c1
  rw [hw1] at c10 c11
  have HW := Lib.hid hw1
  have m1 : (limbs n).length ≤ 128 := Nat.le_trans l1 (by decide)
  have m2 : (limbs d).length ≤ 128 := Nat.le_trans l2 (by decide)
  have HOK := Lib.hid (frOk_n m1 m2 d0 hg)
  have M1 := Lib.hid m1; have M2 := Lib.hid m2; have D0 := Lib.hid d0
  clear ha hb l1 l2 d0 hg m1 m2 hw1 hz1
  go_enter Tryz.func28, Tryz.ntmps28
  go_wp2_with fail
  rw [← HW.out]
  refine (Check_any HA.out HB.out).mono ?_
  rintro e w2 ⟨rfl, hk2⟩
  rw [HOK.out]
  have HK2 := Lib.hid hk2
  clear hk2 c10 c11
  have c10 := (HB1.out.keep HK2.out).c0; have c11 := (HB1.out.keep HK2.out).c1
  go_wp2_with fail
  refine (quotient_n (HA.out.keep HK2.out) (HB.out.keep HK2.out) M1.out M2.out D0.out).mono ?_
  intro e w3 hq
  obtain ⟨⟨v, rfl, h1, -⟩, hk3⟩ := hq
  have FIN : Hid ((∃ u, (.returned (.tuple #[v, .int .i64 0]) : Ending) = .returned (.tuple #[u, .int .i64 0]) ∧ Sl w3 u (limbs (n / d))) ∧ Kp w w3) := ⟨⟨v, rfl, h1⟩, Kp.trans HK1.out (Kp.trans HK2.out hk3)⟩
  clear h1 hk3 c10 c11
  go_wp2_with fail
  go_ret2
  exact FIN.out
end Go.Proofs.YtgpochhndjadhaaGreatDoor
