/- Contracts of the reference's zeros and take: the number of zeros at the low end, and a difference in place. Conditions: the slices hold the digits that are named. -/
import Derived.Test.YtfcpfmjoelhlnaaGreatDoorRCut
namespace Go.Proofs.YtfcpfmjoelhlnaaGreatDoor
open Go.RowKit LimbN

/-- 2^k is the greatest power of two that divides n. -/
def Low (n k : Nat) : Prop := 2 ^ k ∣ n ∧ n / 2 ^ k % 2 = 1
theorem low_limb {xs : List Nat} {m i : Nat} (hz : ∀ j : Nat, j < m → xs[j]?.getD 0 = 0) (hm : m < xs.length) (hi : i < 32) (hl : Low (xs[m]?.getD 0) i) : Low (val xs) (32 * m + i) := by
  have e : val xs = 4294967296 ^ m * val (xs.drop m) := by
    have h := val_append (xs.take m) (xs.drop m)
    rw [List.take_append_drop, List.length_take, Nat.min_eq_left (by omega)] at h
    have h0 : val (xs.take m) = 0 := val_eq_zero.2 (fun j => by
      rw [List.getElem?_take]
      split
      · exact hz j (by assumption)
      · rfl)
    rw [h, h0, Nat.zero_add]
  rw [val_drop hm] at e
  obtain ⟨⟨u, hu⟩, ho⟩ := hl
  rw [hu, Nat.mul_div_cancel_left _ (Nat.pow_pos (by omega))] at ho
  have e32 := pow32 hi
  have hp : (2 : Nat) ^ (32 * m + i) = 4294967296 ^ m * 2 ^ i := by rw [Nat.pow_add, Nat.pow_mul]
  have hev : 2 ^ (32 - i) % 2 = 0 := by
    obtain ⟨k, hk⟩ : ∃ k, 32 - i = k + 1 := ⟨31 - i, by omega⟩
    rw [hk, Nat.pow_succ, Nat.mul_mod_left]
  have e2 : val xs = 2 ^ (32 * m + i) * (u + 2 ^ (32 - i) * val (xs.drop (m + 1))) := by
    rw [e, hu, hp, ← e32, Nat.mul_add, Nat.mul_add]; simp only [Nat.mul_assoc]
  refine ⟨⟨_, e2⟩, ?_⟩
  rw [e2, Nat.mul_div_cancel_left _ (Nat.pow_pos (by omega)), Nat.add_mod, Nat.mul_mod, hev, Nat.zero_mul, ho]
theorem low_half {x i n : Nat} (hx : x = n / 2 ^ i) (hd : 2 ^ i ∣ n) (he : x % 2 = 0) : 2 ^ (i + 1) ∣ n ∧ x / 2 = n / 2 ^ (i + 1) := by
  obtain ⟨u, hu⟩ := hd
  rw [hu, Nat.mul_div_cancel_left _ (Nat.pow_pos (by omega))] at hx
  subst hx
  obtain ⟨v, hv⟩ := Nat.dvd_of_mod_eq_zero he
  subst hv
  have : n = 2 ^ (i + 1) * v := by rw [hu, Nat.pow_succ, Nat.mul_assoc]
  refine ⟨⟨v, this⟩, ?_⟩
  rw [this, Nat.mul_div_cancel_left _ (Nat.pow_pos (by omega)), Nat.mul_div_cancel_left _ (by omega)]
/-- The number of zeros at the low end. -/
structure ZeroR (xs : List Nat) (w : World) (e : Ending) (w' : World) : Prop where
  ex : ∃ k : Nat, e = .returned (.int .i64 k) ∧ Low (val xs) k
  same : w = w'
set_option maxRecDepth 100000 in
set_option maxHeartbeats 1000000 in
theorem zeros_any {xs : List Nat} {v : Value} {w : World} (ha : Sl w v xs) (h0 : val xs ≠ 0) (hlen : xs.length ≤ 1000) :
    Calls Tryz.prog 94 #[v] w (ZeroR xs w) := by
  obtain ⟨⟨ao, cap, rfl, hc, hm, hat, _⟩, hl, _⟩ := ha
  have hnz : ∃ m : Nat, m < xs.length ∧ (∀ j : Nat, j < m → xs[j]?.getD 0 = 0) ∧ xs[m]?.getD 0 ≠ 0 := by
    refine Classical.byContradiction fun hn => h0 (val_eq_zero.2 fun i => ?_)
    induction i using Nat.strongRecOn with
    | _ i ih =>
      by_cases hi : i < xs.length
      · exact Classical.byContradiction fun h => hn ⟨i, hi, fun j hj => ih j hj, h⟩
      · rw [List.getElem?_eq_none (by omega)]; rfl
  obtain ⟨m, hm1, hm2, hm3⟩ := hnz
  have FIN : Hid (∀ (k : Nat), Low (val xs) k → ZeroR xs w (.returned (.int .i64 (k : Int))) w) := fun k h => ⟨⟨k, rfl, h⟩, rfl⟩
  obtain ⟨Q, hQ⟩ : ∃ Q, Q = ZeroR xs w := ⟨_, rfl⟩
  rw [← hQ] at FIN ⊢
  have hmb := hl m
  obtain ⟨b, off, rfl, hcells⟩ := hat.cells (by omega)
  have hcm := hcells m hm1
  obtain ⟨y, ey⟩ : ∃ y, y = xs[m]?.getD 0 := ⟨_, rfl⟩
  rw [← ey] at hcm hm3 hmb
  have EY := Lib.hid ey; have HZ := Lib.hid hm2; have HCELLS := Lib.hid hcells; have HM1 := Lib.hid hm1
  obtain ⟨len, hlen'⟩ : ∃ len, len = xs.length := ⟨_, rfl⟩
  rw [← hlen'] at hc hlen hm1 ⊢
  have HL := Lib.hid hlen'
  have hyf : ((y : Int) == 0) = false := beq_eq_false_iff_ne.2 (by omega)
  unfold maxLen at hm
  clear hat hl h0 hQ hm2 hcells ey hlen'
  go_enter Tryz.func94, Tryz.ntmps94
  go_wp2_with fail
  go_loop [3] (fun i => ∃ k : Nat, k ≤ m ∧ i = .int .i64 k) (fun i => m - (intOf i).toNat)
  case atStart => exact ⟨0, Nat.zero_le _, rfl⟩
  case round =>
    obtain ⟨k, hk, rfl⟩ := hrel
    by_cases hkm : k < m
    · have hcell := HCELLS.out k (by have := HM1.out; omega)
      rw [HZ.out k hkm] at hcell
      go_wp2
      go_round
      case rel => exact ⟨k + 1, by omega, vint (by omega)⟩
      case measure => simp [intOf]; omega
    · have hkk : k = m := by omega
      subst hkk
      go_wp2_with fail
      go_loop [4, 5] (fun kv xv => ∃ (i x : Nat), kv = .int .i64 ((32 * k + i : Nat) : Int) ∧ xv = .int .u32 x ∧ i < 32 ∧ 0 < x ∧ x = y / 2 ^ i ∧ 2 ^ i ∣ y) (fun _ xv => (intOf xv).toNat)
      case atStart => exact ⟨0, y, vint (by omega), rfl, by omega, by omega, by simp, ⟨y, by simp⟩⟩
      case round =>
        obtain ⟨i, x, rfl, rfl, hi, hx0, hx, hd⟩ := hrel
        have hxy : x ≤ y := by rw [hx]; exact Nat.div_le_self _ _
        have HX := Lib.hid hx; have HD := Lib.hid hd
        clear hx hd
        by_cases he : x % 2 = 0
        · have hef : ((x : Int) % 2 == 0) = true := by rw [beq_iff_eq]; omega
          have hh := low_half HX.out HD.out he
          have hi31 : i + 1 < 32 := by
            refine Nat.lt_of_not_le fun h => ?_
            have h32 : i + 1 = 32 := by omega
            have h2 := hh.2
            have h3 : y / 2 ^ (i + 1) = 0 := by rw [h32]; exact Nat.div_eq_of_lt (by omega)
            rw [h3] at h2
            omega
          have HH := Lib.hid hh; clear hh
          go_wp2
          go_round
          case rel => exact ⟨i + 1, x / 2, vint (by omega), vint (by omega), hi31, by omega, HH.out.2, HH.out.1⟩
          case measure => simp [intOf]; omega
        · have hef : ((x : Int) % 2 == 0) = false := beq_eq_false_iff_ne.2 (by omega)
          have hlow : Low (val xs) (32 * k + i) := low_limb HZ.out HM1.out hi ⟨by rw [← EY.out]; exact HD.out, by rw [← EY.out, ← HX.out]; omega⟩
          have FIN2 := Lib.hid (FIN.out _ hlow)
          clear hlow
          go_wp2
          (try go_ret)
          exact FIN2.out

-- the reference's take
set_option maxRecDepth 100000 in
set_option maxHeartbeats 2000000 in
theorem take_any {w : World} {g o cap : Nat} {t : TypeId} {xs ys : List Nat} {vb : Value} (h : Part w g t o xs) (hl : Lt xs) (hc : xs.length ≤ cap) (hm : cap ≤ maxLen) (hs : xs.length ≤ 1000) (hb : Sl w vb ys) (hoff : Off g vb ys) (hll : ys.length ≤ xs.length) (hle : val ys ≤ val xs) :
    Calls Tryz.prog 96 #[.slice (some ⟨g, o, none⟩) xs.length cap, vb] w (Mine (val xs - val ys) g cap t w) := by
  have FIN : Hid (∀ e w1 w', Mine (val xs - val ys) g cap t w1 e w' → Only g w w1 → Mine (val xs - val ys) g cap t w e w') := by
    intro e w1 w' h1 h2
    obtain ⟨⟨o', c, rfl, hp, h3, h4⟩, h5⟩ := h1
    exact ⟨⟨o', c, rfl, hp, h3, h4⟩, h2.trans h5⟩
  obtain ⟨Q, hQ⟩ : ∃ Q, Q = Mine (val xs - val ys) g cap t w := ⟨_, rfl⟩
  rw [← hQ] at FIN ⊢
  obtain ⟨⟨bo, cb, rfl, hcb, hcm, hat, _⟩, hys, _⟩ := hb
  obtain ⟨la, hla⟩ : ∃ la, la = xs.length := ⟨_, rfl⟩
  obtain ⟨lb, hlb⟩ : ∃ lb, lb = ys.length := ⟨_, rfl⟩
  rw [← hla] at hc hs hll
  rw [← hlb] at hcb hll hoff
  rw [← hla, ← hlb]
  unfold maxLen at hm hcm
  have HP := Lib.hid h; have HXS := Lib.hid hl; have HAT := Lib.hid hat; have HYS := Lib.hid hys; have HOFF := Lib.hid hoff; have HLA := Lib.hid hla; have HLB := Lib.hid hlb; have HLE := Lib.hid hle
  clear h hl hat hys hoff hla hlb hle hQ
  go_enter Tryz.func96, Tryz.ntmps96
  go_wp2_with fail
  go_loopw [5, 6] (fun bv i wr => ∃ (k b : Nat) (zr : List Nat), k ≤ la ∧ i = .int .i64 k ∧ bv = .int .u64 b ∧ b ≤ 1 ∧ SubRel xs 0 k b 1 (val (ys.take k)) zr ∧ Part wr g t o zr ∧ Only g w wr) (fun _ i _ => la - (intOf i).toNat)
  case atStart => exact ⟨0, 0, xs, Nat.zero_le _, rfl, rfl, by omega, by simpa [val] using SubRel.start xs 0 1 HXS.out, HP.out, Only.refl _ _⟩
  case round =>
    obtain ⟨k, b, zr, hk, rfl, rfl, hbb, hrel', hpart, honly⟩ := hrel
    rename World => wr
    have hzl : zr.length = la := by rw [hrel'.len, HLA.out]
    by_cases hlt : k < la
    · have hcell := hpart.cell k (by omega)
      have hfree : wr.frozen? ⟨g, o + k, none⟩ = false := hpart.free _
      have hzb := hrel'.lt k
      obtain ⟨z, ez⟩ : ∃ z, z = zr[k]?.getD 0 := ⟨_, rfl⟩
      rw [← ez] at hcell hzb
      have HREL := Lib.hid hrel'; have HPT := Lib.hid hpart; have HON := Lib.hid honly; have EZ := Lib.hid ez
      clear hrel' hpart honly ez
      have STEP : Hid (∀ (y d c2 : Nat) (D : Int), y = ys[k]?.getD 0 → d < 4294967296 → d + (b + 1 * y) = z + 4294967296 * c2 → D = (d : Int) → SubRel xs 0 (k + 1) c2 1 (val (ys.take (k + 1))) (zr.set k d) ∧ Part (wr.setCell ⟨g, o + k, none⟩ (.int .u32 D)) g t o (zr.set k d) ∧ Only g w (wr.setCell ⟨g, o + k, none⟩ (.int .u32 D))) := by
        intro y d c2 D hy hd he hD
        refine ⟨?_, HPT.out.set k d D hD (by omega), HON.out.set _ _⟩
        have := HREL.out.step (by rw [← HLA.out]; omega) y d c2 hd (by rw [Nat.zero_add, ← EZ.out]; exact he)
        rw [Nat.zero_add] at this
        rw [val_take_succ, ← hy]
        exact this
      by_cases hkb : k < lb
      · obtain ⟨bl, off, rfl, hcy⟩ := HAT.out.cells (by have := HLB.out; omega)
        have hnil : ys ≠ [] := fun h => by have := HLB.out; rw [h] at this; simp at this; omega
        have hcelly : wr.cell? ⟨bl, off + k, none⟩ = some (.int .u32 (ys[k]?.getD 0 : Nat)) := (World.cell?_of_block (HON.out.block bl (HOFF.out hnil _ _ _ rfl))).trans (hcy k (by have := HLB.out; omega))
        have hyb := HYS.out k
        obtain ⟨y, ey⟩ : ∃ y, y = ys[k]?.getD 0 := ⟨_, rfl⟩
        rw [← ey] at hcelly hyb
        have EY := Lib.hid ey
        clear hcy hnil ey
        by_cases hz : z < b + y
        · go_wp2
          go_roundw
          case rel =>
            obtain ⟨s1, s2, s3⟩ := STEP.out y (z + 4294967296 - (b + y)) 1 _ EY.out (by omega) (by omega) rfl
            refine ⟨k + 1, 1, _, by omega, vint (by omega), ?_, by omega, s1, ?_, ?_⟩
            · first | rfl | exact vint (by first | omega | (simp only [IntKind.wrap_u64]; omega))
            · have e : ∀ D1 : Int, D1 = ((z + 4294967296 - (b + y) : Nat) : Int) → Part (wr.setCell ⟨g, o + k, none⟩ (.int .u32 D1)) g t o (zr.set k (z + 4294967296 - (b + y))) := fun D1 h => by rw [h]; exact s2
              exact e _ (by first | omega | (simp only [IntKind.wrap_u64]; omega))
            · exact HON.out.set _ _
          case measure => simp [intOf]; omega
        · go_wp2
          go_roundw
          case rel =>
            obtain ⟨s1, s2, s3⟩ := STEP.out y (z - (b + y)) 0 _ EY.out (by omega) (by omega) rfl
            refine ⟨k + 1, 0, _, by omega, vint (by omega), ?_, by omega, s1, ?_, ?_⟩
            · first | rfl | exact vint (by first | omega | (simp only [IntKind.wrap_u64]; omega))
            · have e : ∀ D1 : Int, D1 = ((z - (b + y) : Nat) : Int) → Part (wr.setCell ⟨g, o + k, none⟩ (.int .u32 D1)) g t o (zr.set k (z - (b + y))) := fun D1 h => by rw [h]; exact s2
              exact e _ (by first | omega | (simp only [IntKind.wrap_u64]; omega))
            · exact HON.out.set _ _
          case measure => simp [intOf]; omega
      · have EY : Hid (0 = ys[k]?.getD 0) := by have := HLB.out; show _ = _; rw [List.getElem?_eq_none (by omega)]; rfl
        by_cases hz : z < b
        · go_wp2
          go_roundw
          case rel =>
            obtain ⟨s1, s2, s3⟩ := STEP.out 0 (z + 4294967296 - b) 1 _ EY.out (by omega) (by omega) rfl
            refine ⟨k + 1, 1, _, by omega, vint (by omega), ?_, by omega, s1, ?_, ?_⟩
            · first | rfl | exact vint (by first | omega | (simp only [IntKind.wrap_u64]; omega))
            · have e : ∀ D1 : Int, D1 = ((z + 4294967296 - b : Nat) : Int) → Part (wr.setCell ⟨g, o + k, none⟩ (.int .u32 D1)) g t o (zr.set k (z + 4294967296 - b)) := fun D1 h => by rw [h]; exact s2
              exact e _ (by first | omega | (simp only [IntKind.wrap_u64]; omega))
            · exact HON.out.set _ _
          case measure => simp [intOf]; omega
        · go_wp2
          go_roundw
          case rel =>
            obtain ⟨s1, s2, s3⟩ := STEP.out 0 (z - b) 0 _ EY.out (by omega) (by omega) rfl
            refine ⟨k + 1, 0, _, by omega, vint (by omega), ?_, by omega, s1, ?_, ?_⟩
            · first | rfl | exact vint (by first | omega | (simp only [IntKind.wrap_u64]; omega))
            · have e : ∀ D1 : Int, D1 = ((z - b : Nat) : Int) → Part (wr.setCell ⟨g, o + k, none⟩ (.int .u32 D1)) g t o (zr.set k (z - b)) := fun D1 h => by rw [h]; exact s2
              exact e _ (by first | omega | (simp only [IntKind.wrap_u64]; omega))
            · exact HON.out.set _ _
          case measure => simp [intOf]; omega
    · have hkl : k = la := by omega
      subst hkl
      rw [List.take_of_length_le (by have := HLB.out; omega)] at hrel'
      have hv := sub_whole hrel' HLA.out.symm (by rw [Nat.one_mul]; exact HLE.out)
      rw [Nat.one_mul] at hv
      have hcut := cut_part (cap := cap) hpart hrel'.lt (by omega) (by unfold maxLen; omega)
      rw [hzl, hv] at hcut
      have HCUT := Lib.hid hcut; have HON := Lib.hid honly
      clear hrel' hpart honly hv hcut hzl
      go_wp2_with fail
      refine HCUT.out.mono ?_
      intro e w2 hm2
      have FIN2 := Lib.hid (FIN.out _ _ _ hm2 HON.out)
      obtain ⟨⟨o2, c2, rfl, -, -, -⟩, -⟩ := hm2
      go_wp2
      (try go_ret)
      exact FIN2.out
end Go.Proofs.YtfcpfmjoelhlnaaGreatDoor
