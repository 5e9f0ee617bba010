/- The reference's Digits: the decimal digits of a number. Condition: the slice holds the number that is named, of at most 1000 limbs. -/
import Derived.Test.YtgpochhndjadhaaGreatDoorNn
import Derived.Test.YtgpochhndjadhaaGreatDoorBack
import Derived.Lib.SlBytesRow
import Derived.RegionTactic
import Derived.ChangeAlike
namespace Go.Proofs.YtgpochhndjadhaaGreatDoor
open Go.RowKit LimbN

theorem info8b : (Tryz.prog.info? 5).map (fun i => (i.zero, i.size, i.bytes)) = some (some (.int .u8 0), 1, 1) := by kernel_rfl
/-- Bytes as values. -/
def B8 (bs : List Nat) : List Value := bs.map fun (z : Nat) => Value.int .u8 (z : Int)
theorem B8_length (bs : List Nat) : (B8 bs).length = bs.length := by simp [B8]
/-- append of one byte to a slice of the call's own. -/
theorem wpList_appB {w : World} {ops : Array Oper} {rest : List Oper} {o : Oper} {a : Act} {Q : Exit → Act → World → Prop} (hgd : o.guard = none) (s x : Operand) (t : TypeId)
    (ho : o.op = .call { callee := .builtin .append, args := #[s, x], argTypes := #[t, t] }) (ht : Tryz.prog.underlying t = some (.slice 5)) (base : Nat)
    (v : Value) (n : Nat) (bs : List Nat) (hs : a.eval s = v) (hown : w.ownsRow base 5 1 v n (B8 bs)) (y : Nat)
    (ad : Addr) (hx : a.eval x = .slice (some ad) 1 1) (hc : w.cell? ad = some (.int .u8 (y : Nat))) (hsum : n + 1 ≤ 1000000) (hbase : base ≤ w.heap.size)
    (h : ∀ v' w', w'.ownsRow base 5 1 v' (n + 1) (B8 (bs ++ [y])) → w.grownBy w' v.ownBlock → wpList Tryz.prog ops Q rest (a.put o.dst v') w') : wpList Tryz.prog ops Q (o :: rest) a w := by
  obtain ⟨i0, hi, hz0, hz1, hz2⟩ := info_parts info8b
  refine wpList_append_own w hgd s x t ho base 5 i0 (.int .u8 0) 1 1 ht hi hz0 hz1 hz2 rfl (by decide) v n (B8 bs) hs hown ad 1 1 (B8 [y]) hx (by simp [B8]) ?_ ?_
    (by unfold maxLen; omega) (by omega) hbase (fun v' w' h1 h2 _ => h v' w' (by rw [show B8 (bs ++ [y]) = B8 bs ++ B8 [y] by simp [B8]]; exact h1) h2)
  · intro j u hu
    obtain rfl : j = 0 := by
      have := (List.getElem?_eq_some_iff.1 hu).1
      simp [B8] at this
      omega
    simp [B8] at hu
    rw [← hu]
    simpa [Addr.add] using hc
  · intro u hu
    obtain ⟨_, _, rfl⟩ := List.mem_map.1 hu
    rfl
/-- The code of the decimal digit at place t. -/
def dc (V t : Nat) : Nat := 48 + V / 10 ^ t % 10
theorem dc_lt (V t : Nat) : dc V t < 256 := by unfold dc; omega
structure OwnB (w wr : World) (v : Value) (k : Nat) (bs : List Nat) : Prop where
  owns : wr.ownsRow w.heap.size 5 1 v k (B8 bs)
  kp : Kp w wr
theorem OwnB.keep {w wr w1 : World} {v : Value} {k : Nat} {bs : List Nat} (h : OwnB w wr v k bs) (hk : Kp wr w1) : OwnB w w1 v k bs := by
  refine ⟨?_, Kp.trans h.kp hk⟩
  refine ⟨h.owns.1, ?_⟩
  rcases h.owns.2 with hn | ⟨g, cap, cur, e, hb, hg, r⟩
  · exact .inl hn
  · exact .inr ⟨g, cap, cur, e, hb, by rw [hk.block g (lt_of_block hg)]; exact hg, r⟩
theorem OwnB.shape {w wr : World} {v : Value} {k : Nat} {bs : List Nat} (h : OwnB w wr v k bs) : ∃ ao c, v = .slice ao k c := by
  rcases h.owns.2 with ⟨rfl, h0⟩ | ⟨g, cap, cur, rfl, _⟩
  · exact ⟨none, 0, by rw [h0]⟩
  · exact ⟨_, _, rfl⟩
/-- Block g holds the bytes that f names. -/
structure PB (w : World) (g : Nat) (t : TypeId) (n : Nat) (f : Nat → Nat) : Prop where
  ex : ∃ cur : Array Value, w.heap[g]? = some (.cells cur t (0, 0)) ∧ n ≤ cur.size ∧ ∀ j : Nat, j < n → cur[j]? = some (.int .u8 (f j : Nat))
theorem PB.cell {w : World} {g n : Nat} {t : TypeId} {f : Nat → Nat} (h : PB w g t n f) (i : Nat) (hi : i < n) : w.cell? ⟨g, i, none⟩ = some (.int .u8 (f i : Nat)) := by
  obtain ⟨cur, hb, _, hc⟩ := h.ex
  rw [cell_of_row w g i cur t (0, 0) hb]
  exact hc i hi
theorem PB.free {w : World} {g n : Nat} {t : TypeId} {f : Nat → Nat} (h : PB w g t n f) (i : Nat) : w.frozen? ⟨g, i, none⟩ = false := by
  obtain ⟨cur, hb, _, _⟩ := h.ex
  exact frozen_of_row w g i cur t hb
theorem PB.set {w : World} {g n : Nat} {t : TypeId} {f : Nat → Nat} (h : PB w g t n f) (i d : Nat) (hi : i < n) : PB (w.setCell ⟨g, i, none⟩ (.int .u8 (d : Nat))) g t n (fun j => if j = i then d else f j) := by
  obtain ⟨cur, hb, hs, hc⟩ := h.ex
  refine ⟨_, heap_setCell_same w g i _ t _ hb, by simpa using hs, fun j hj => ?_⟩
  rw [Array.getElem?_setIfInBounds]
  by_cases hji : i = j
  · subst hji
    rw [if_pos rfl, if_pos (by omega), if_pos rfl]
  · rw [if_neg hji, hc j hj, if_neg (Ne.symm hji)]
theorem PB.drew {w : World} {g n : Nat} {t : TypeId} {f : Nat → Nat} (h : PB w g t n f) : PB w.drew g t n f := by obtain ⟨cur, hb, hs, hc⟩ := h.ex; exact ⟨cur, hb, hs, hc⟩
theorem PB.congr {w : World} {g n : Nat} {t : TypeId} {f k : Nat → Nat} (h : PB w g t n f) (e : ∀ j : Nat, j < n → f j = k j) : PB w g t n k := by
  obtain ⟨cur, hb, hs, hc⟩ := h.ex
  exact ⟨cur, hb, hs, fun j hj => by rw [hc j hj, e j hj]⟩
theorem OwnB.parts {w wr : World} {v : Value} {k V : Nat} (h : OwnB w wr v k ((List.range k).map (dc V))) (h0 : 0 < k) : ∃ g cap, v = .slice (some ⟨g, 0, none⟩) k cap ∧ w.heap.size ≤ g ∧ k ≤ cap ∧ cap ≤ maxLen ∧ PB wr g 5 k (dc V) := by
  rcases h.owns.2 with ⟨_, h1⟩ | ⟨g, cap, cur, rfl, hb, hg, hnc, hcm, hsz, htake⟩
  · omega
  · have hlen : k ≤ cur.size := by
      have := congrArg List.length htake
      rw [List.length_take, B8_length] at this
      simp at this
      omega
    refine ⟨g, cap, rfl, hb, hnc, hcm, cur, hg, hlen, fun i hi => ?_⟩
    have h1 : (cur.toList.take (k * 1))[i]? = (B8 ((List.range k).map (dc V)))[i]? := by rw [htake]
    rw [List.getElem?_take, if_pos (by omega)] at h1
    rw [← Array.getElem?_toList, h1]
    simp [B8, List.getElem?_range hi]
/-- The bytes after i exchanges. -/
def revF (V n i j : Nat) : Nat := if j < i ∨ n - 1 - i < j then dc V (n - 1 - j) else dc V j
theorem revF_step {V n i : Nat} (h : i < n - 1 - i) (j : Nat) (hj : j < n) : (if j = n - 1 - i then revF V n i i else if j = i then revF V n i (n - 1 - i) else revF V n i j) = revF V n (i + 1) j := by
  unfold revF
  by_cases h1 : j = n - 1 - i
  · subst h1
    rw [if_pos rfl, if_neg (by omega), if_pos (by omega), show n - 1 - (n - 1 - i) = i by omega]
  · rw [if_neg h1]
    by_cases h2 : j = i
    · subst h2
      rw [if_pos rfl, if_neg (by omega), if_pos (by omega)]
    · rw [if_neg h2]
      by_cases h3 : j < i ∨ n - 1 - i < j
      · rw [if_pos h3, if_pos (by omega)]
      · rw [if_neg h3, if_neg (by omega)]
theorem revF_end {V n i : Nat} (h : ¬ i < n - 1 - i) (j : Nat) (hj : j < n) : revF V n i j = dc V (n - 1 - j) := by
  unfold revF
  by_cases h3 : j < i ∨ n - 1 - i < j
  · rw [if_pos h3]
  · rw [if_neg h3]
    congr 1
    omega
theorem dec_cells {w : World} {g V n : Nat} {t : TypeId} (h : PB w g t n (fun j => dc V (n - 1 - j))) (hn : n = Lib.nDigits V) : Lib.Bytes w g 0 (decS V) := by
  intro i hi
  have hi' : i < n := by rw [decS_size] at hi; omega
  rw [Nat.zero_add, h.cell i hi']
  have h1 := sb_dec V i (by omega)
  have h2 : sb (decS V) i = ((decS V)[i]).toNat := by
    unfold sb
    have h3 : i < (decS V).data.size := hi
    rw [Array.getElem?_eq_getElem h3]
    rfl
  rw [← h2, h1, hn]
  rfl
theorem big_pow {V k K : Nat} (h : (limbs V).length ≤ K) (h0 : V / 10 ^ k ≠ 0) : k < 10 * K := by
  have h1 : V < 4294967296 ^ K := limbs_len_le.1 h
  have h2 : 10 ^ k ≤ V := by
    refine Nat.le_of_not_lt fun h => h0 (Nat.div_eq_of_lt h)
  have h3 : (4294967296 : Nat) ^ K ≤ 10 ^ (10 * K) := by
    have := Nat.pow_le_pow_left (show 4294967296 ≤ 10 ^ 10 by decide) K
    rwa [← Nat.pow_mul] at this
  exact (Nat.pow_lt_pow_iff_right (a := 10) (by omega)).1 (Nat.lt_of_le_of_lt h2 (Nat.lt_of_lt_of_le h1 h3))
/-- A text. -/
structure TextR (s : ByteArray) (w : World) (e : Ending) (w' : World) : Prop where
  e : e = .returned (.string s)
  kp : Kp w w'
set_option maxHeartbeats 400000 in
theorem Digits_zero {v : Value} {w : World} (ha : Sl w v []) : Calls Tryz.prog 74 #[v] w (TextR (decS 0) w) := by
  obtain ⟨ao, cap, rfl, -⟩ := ha.ex
  have e0 : Lib.decDigits 0 = [48] := by rw [Lib.decDigits_one (by omega)]; rfl
  have FIN : Hid (TextR (decS 0) w (.returned (.string ⟨#[48]⟩)) w) := ⟨by unfold decS; rw [e0], Kp.refl _⟩
  clear ha e0
  go_enter Tryz.func74, Tryz.ntmps74
  go_wp2
  go_ret
  exact FIN.out
set_option maxRecDepth 100000 in
set_option maxHeartbeats 2000000 in
theorem Digits_pos {V : Nat} {v : Value} {w : World} (ha : Sl w v (limbs V)) (hl : (limbs V).length ≤ 1000) (h0 : V ≠ 0) : Calls Tryz.prog 74 #[v] w (TextR (decS V) w) := by
  have FIN : Hid (∀ w', Kp w w' → TextR (decS V) w (.returned (.string (decS V))) w') := fun w' h => ⟨rfl, h⟩
  obtain ⟨Q, hQ⟩ : ∃ Q, Q = TextR (decS V) w := ⟨_, rfl⟩
  rw [← hQ] at FIN ⊢
  have HA := Lib.hid ha; have HL := Lib.hid hl; have H0 := Lib.hid h0
  obtain ⟨ao, cap, rfl, hca, hcm, -⟩ := ha.ex
  have hlp := limbs_len_pos.2 h0
  obtain ⟨la, ela⟩ : ∃ la, la = (limbs V).length := ⟨_, rfl⟩
  rw [← ela] at hlp HA hca ⊢
  have hlz : ((la : Int) == 0) = false := beq_eq_false_iff_ne.2 (by omega)
  unfold maxLen at hcm
  clear ha hl h0 hQ ela
  go_enter Tryz.func74, Tryz.ntmps74
  go_wp2_with fail
  go_loopw [3, 0] (fun ov av wr => ∃ k : Nat, k ≤ 10000 ∧ (k = 0 ∨ V / 10 ^ (k - 1) ≠ 0) ∧ OwnB w wr ov k ((List.range k).map (dc V)) ∧ Sl wr av (limbs (V / 10 ^ k))) (fun _ av wr => digs wr av)
  case atStart => exact ⟨0, by omega, .inl rfl, ⟨World.ownsRow_nil _ _ _ _, Kp.refl _⟩, by rw [Nat.pow_zero, Nat.div_one]; exact HA.out⟩
  case round =>
    obtain ⟨k, hk, hkp, hown, hsl⟩ := hrel
    rename World => wr
    have HOWN := Lib.hid hown; have HSL := Lib.hid hsl; have HKP := Lib.hid hkp
    have hsz := hown.kp.size
    have HDG : Hid (digs wr _ = V / 10 ^ k) := (digs_eq hsl).trans (val_limbs _)
    obtain ⟨bo, cb, rfl, hcb, hcbm, -⟩ := hsl.ex
    unfold maxLen at hcbm
    have hlz2 := limbs_len_zero (n := V / 10 ^ k)
    clear hown hsl hkp
    by_cases hr : V / 10 ^ k = 0
    · have hlr := hlz2.2 hr
      have hk0 : 0 < k := by
        rcases Nat.eq_zero_or_pos k with h | h
        · subst h
          rw [Nat.pow_zero, Nat.div_one] at hr
          exact absurd hr H0.out
        · exact h
      have hnd : k = Lib.nDigits V := by
        have hp : 0 < 10 ^ k := Nat.pow_pos (by omega)
        have h1 : V < 10 ^ k := (Nat.div_eq_zero_iff_lt hp).1 hr
        have h2 : 10 ^ (k - 1) ≤ V := by
          rcases HKP.out with h | h
          · omega
          · exact Nat.le_of_not_lt fun hh => h (Nat.div_eq_of_lt hh)
        have := Lib.nDigits_unique (k - 1) V h2 (by rw [show k - 1 + 1 = k by omega]; exact h1)
        omega
      obtain ⟨g, cap2, rfl, hgb, hkc, hc2, hpb⟩ := HOWN.out.parts hk0
      have HPB := Lib.hid hpb; have HK := Lib.hid HOWN.out.kp; have HND := Lib.hid hnd
      rw [hlr]
      rw [hlr] at hcb
      unfold maxLen at hc2
      clear hlz2 hr hlr hnd hpb HOWN HSL HDG HKP
      go_wp2_with fail
      go_loopw [6, 7] (fun iv kv wy => ∃ i : Nat, i ≤ k ∧ 2 * i ≤ k ∧ iv = .int .i64 i ∧ kv = .int .i64 ((k : Int) - 1 - i) ∧ PB wy g 5 k (revF V k i) ∧ Kp w wy) (fun iv kv _ => (intOf kv - intOf iv).toNat)
      case atStart => exact ⟨0, by omega, by omega, rfl, vint (by omega), HPB.out.congr (fun j hj => by unfold revF; rw [if_neg (by omega)]), HK.out⟩
      case round =>
        obtain ⟨i, hi, hi2, rfl, rfl, hpb, hky⟩ := hrel
        rename World => wy
        have HPB2 := Lib.hid hpb; have HKY := Lib.hid hky
        clear hpb hky
        by_cases hlt : i < k - 1 - i
        · have hci := HPB2.out.cell i (by omega)
          have hck := HPB2.out.cell (k - 1 - i) (by omega)
          have hfi : wy.frozen? ⟨g, i, none⟩ = false := HPB2.out.free _
          have hfk : wy.frozen? ⟨g, k - 1 - i, none⟩ = false := HPB2.out.free _
          obtain ⟨x, ex⟩ : ∃ x, x = revF V k i i := ⟨_, rfl⟩
          obtain ⟨y, ey⟩ : ∃ y, y = revF V k i (k - 1 - i) := ⟨_, rfl⟩
          rw [← ex] at hci
          rw [← ey] at hck
          have EX := Lib.hid ex; have EY := Lib.hid ey
          obtain ⟨p, ep⟩ : ∃ p, p = k - 1 - i := ⟨_, rfl⟩
          have hp : (k : Int) - 1 - (i : Int) = (p : Int) := by omega
          rw [← ep] at hck hfk hlt EY
          rw [hp]
          have EP := Lib.hid ep
          have hpk : p < k := by omega
          clear ex ey ep hp
          go_wp2_with fail
          go_region
          all_goals (clear hci hck hfi hfk)
          all_goals (go_wp2_with fail)
          all_goals go_roundw
          case rel =>
            refine ⟨i + 1, by have := EP.out; omega, by have := EP.out; omega, vint (by omega), vint (by have := EP.out; omega), ?_, ?_⟩
            · refine PB.drew (((HPB2.out.set i y (by omega)).set p x hpk).congr (fun j hj => ?_))
              have h1 := revF_step (V := V) (n := k) (i := i) (by have := EP.out; omega) j hj
              rw [← h1, EX.out, EY.out, EP.out]
            · exact Kp.trans (Only.kp HKY.out (((Only.refl g wy).set i _).set p _) hgb) (Kp.drewN _ 1)
          case measure => simp [intOf]; omega
        · have HEND : Hid (PB wy g 5 k (fun j => dc V (k - 1 - j))) := HPB2.out.congr (fun j hj => revF_end hlt j hj)
          have hb := dec_cells HEND.out HND.out
          have hsz8 : (decS V).size = k := by rw [decS_size, ← HND.out]
          have hcv := Lib.run_convert_whole wy 112 5 9 Tryz.underlying112 Tryz.underlying5 Tryz.underlying9 g 0 (decS V) hb cap2
          rw [hsz8] at hcv
          have FIN2 := Lib.hid (FIN.out wy HKY.out)
          obtain ⟨S, eS⟩ : ∃ S, S = decS V := ⟨_, rfl⟩
          rw [← eS] at hcv FIN2
          clear hb hsz8 eS
          go_wp2_with fail
          (try go_ret)
          exact FIN2.out
    · obtain ⟨a4, c4, rfl⟩ := HOWN.out.shape
      have hrp := limbs_len_pos.2 hr
      have hkb : k < 10 * 1000 := big_pow HL.out hr
      have hsm := small_any (d := 10) HSL.out (by omega) (by omega)
      rw [val_limbs] at hsm
      have HSM := Lib.hid hsm
      obtain ⟨lr, elr⟩ : ∃ lr, lr = (limbs (V / 10 ^ k)).length := ⟨_, rfl⟩
      obtain ⟨q, eq⟩ : ∃ q, q = V / 10 ^ k % 10 := ⟨_, rfl⟩
      rw [← elr] at hrp HSL HSM HDG hcb ⊢
      rw [← eq] at HSM
      have EQ := Lib.hid eq
      have hqb : q < 10 := by omega
      have HR := Lib.hid hr
      clear hlz2 hsm elr eq hr
      go_wp2_with fail
      refine HSM.out.mono ?_
      rintro e w2 ⟨vq, rfl, hs2, hn2, hk2⟩
      have hdc : dc V k = 48 + q := by unfold dc; rw [EQ.out]
      have hdiv : V / 10 ^ k / 10 = V / 10 ^ (k + 1) := by rw [Nat.div_div_eq_div_mul, ← Nat.pow_succ]
      rw [hdiv] at hs2
      have HS2 := Lib.hid hs2; have HN2 := Lib.hid hn2; have HK2 := Lib.hid hk2; have HDC := Lib.hid hdc; have HDV := Lib.hid hdiv
      clear hs2 hn2 hk2 hdc hdiv
      have HOWN2 := Lib.hid (HOWN.out.keep HK2.out)
      have hsz2 := HOWN2.out.kp.size
      have HCELL : Hid (∀ e : TypeId, (w2.alloc (.cells #[.int .u8 (48 + (q : Int))] e)).cell? ⟨w2.heap.size, 0, none⟩ = some (.int .u8 ((48 + q : Nat) : Int))) := fun e => by rw [World.cell?_alloc_new]; simp
      go_wp2_with (at_builtin; refine wpList_appB rfl (.tmp 19) (.tmp 23) 112 rfl Tryz.underlying112 w.heap.size _ k _ rfl (HOWN2.out.owns.alloc _) (48 + q) ⟨w2.heap.size, 0, none⟩ rfl (HCELL.out _) (by omega) (by simp; omega) ?_)
      intro v' w5 hown' hgr
      have hown5 : OwnB w w5 v' (k + 1) ((List.range (k + 1)).map (dc V)) := by
        refine ⟨?_, ?_⟩
        · rw [List.range_succ, List.map_append, List.map_singleton, HDC.out]; exact hown'
        · refine Below.grown (Below.alloc HOWN2.out.kp HOWN2.out.kp.size _) hgr (by simp; omega) (fun g hg => (HOWN2.out.owns.lt g hg).1)
      have HS5 : Hid (Sl w5 vq (limbs (V / 10 ^ (k + 1)))) := by
        refine (HS2.out.keep (Kp.alloc (Kp.refl w2) _)).grown hgr (fun g hg => ?_)
        intro _ a l c e hag
        have h1 := HN2.out a l c e
        have h2 := (HOWN.out.owns.lt g hg).2
        omega
      have HM : Hid (digs w5 vq < V / 10 ^ k) := by
        show _ < _
        rw [digs_eq HS5.out, val_limbs, ← HDV.out]
        exact Nat.div_lt_self (Nat.pos_of_ne_zero HR.out) (by omega)
      have HOWN5 := Lib.hid hown5
      have ST : Hid (k + 1 ≤ 10000 ∧ (k + 1 = 0 ∨ V / 10 ^ (k + 1 - 1) ≠ 0)) := ⟨by omega, .inr (by rw [Nat.add_sub_cancel]; exact HR.out)⟩
      clear hown' hgr hown5
      go_wp2_with fail
      go_roundw
      case rel => exact ⟨k + 1, ST.out.1, ST.out.2, HOWN5.out, HS5.out⟩
      case measure => rw [HDG.out]; exact HM.out
theorem Digits_any {V : Nat} {v : Value} {w : World} (ha : Sl w v (limbs V)) (hl : (limbs V).length ≤ 1000) : Calls Tryz.prog 74 #[v] w (TextR (decS V) w) := by
  by_cases h0 : V = 0
  · subst h0
    exact Digits_zero ha
  · exact Digits_pos ha hl h0
end Go.Proofs.YtgpochhndjadhaaGreatDoor
