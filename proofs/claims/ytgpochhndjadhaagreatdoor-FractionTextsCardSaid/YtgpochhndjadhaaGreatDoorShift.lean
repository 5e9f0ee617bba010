/- Contracts of the program's shifts: up by fewer than 32 bits into new memory, down in place. Conditions: the slices hold the digits that are named. -/
import Derived.Test.YtgpochhndjadhaaGreatDoorDv
import Derived.Test.YtgpochhndjadhaaGreatDoorDigit
namespace Go.Proofs.YtgpochhndjadhaaGreatDoor
open Go.RowKit LimbN

theorem or_up {c x s : Nat} (hs : s < 32) (hc : c < 2 ^ s) (hx : x < 4294967296) : bits .or .u64 (c : Int) ((x : Int) * 2 ^ s) = ((c + x * 2 ^ s : Nat) : Int) := by
  have hp := (pow_lt32 hs)
  have hm : x * 2 ^ s ≤ 4294967295 * 2147483648 := Nat.mul_le_mul (by omega) hp.2
  have e : ((x : Int) * 2 ^ s) = ((x * 2 ^ s : Nat) : Int) := by rw [Int.natCast_mul, Int.natCast_pow]; rfl
  rw [e, u64_or_nat _ _ (by omega) (by omega)]
  congr 1
  have := Nat.shiftLeft_add_eq_or_of_lt hc x
  rw [Nat.shiftLeft_eq] at this
  rw [Nat.or_comm, ← this, Nat.add_comm]

/-- A number shifted up, in new memory, with one digit more. -/
structure Shifted (xs : List Nat) (s : Nat) (w : World) (e : Ending) (w' : World) : Prop where
  ex : ∃ zr, e = .returned (.slice (some ⟨w.heap.size, 0, none⟩) (xs.length + 1) (xs.length + 1)) ∧ Row w' w.heap.size 59 zr ∧ Lt zr ∧ zr.length = xs.length + 1 ∧ val zr = val xs * 2 ^ s ∧ zr[xs.length]?.getD 0 < 2 ^ s
  kp : Kp w w'
set_option maxRecDepth 100000 in
set_option maxHeartbeats 1000000 in
theorem shiftedUp_any {xs : List Nat} {va : Value} {w : World} (ha : Sl w va xs) (hlen : xs.length ≤ 1000) (s : Nat) (hs : s < 32) :
    Calls Tryz.prog 145 #[va, .int .i64 s] w (Shifted xs s w) := by
  have HSA := Lib.hid ha
  obtain ⟨⟨ao, ca, rfl, hca, hma, hat, _⟩, hxs, _⟩ := ha
  unfold maxLen at hma
  have FIN : Hid (∀ e w', (∃ zr, e = .returned (.slice (some ⟨w.heap.size, 0, none⟩) (xs.length + 1) (xs.length + 1)) ∧ Row w' w.heap.size 59 zr ∧ Lt zr ∧ zr.length = xs.length + 1 ∧ val zr = val xs * 2 ^ s ∧ zr[xs.length]?.getD 0 < 2 ^ s) → Kp w w' → Shifted xs s w e w') := fun e w' h k => ⟨h, k⟩
  obtain ⟨Q, hQ⟩ : ∃ Q, Q = Shifted xs s w := ⟨_, rfl⟩
  rw [← hQ] at FIN ⊢
  clear hQ
  obtain ⟨la, hla⟩ : ∃ la, la = xs.length := ⟨_, rfl⟩
  rw [← hla] at hca hlen HSA FIN
  rw [← hla]
  have hsp := pow_lt32 hs
  have HLA := Lib.hid hla; have HAT := Lib.hid hat; have HXS := Lib.hid hxs
  clear hla hat hxs
  go_enter Tryz.func145, Tryz.ntmps145
  go_wp2_with (at_make; refine wpList_mk rfl (.tmp 11) (.tmp 11) 22 rfl Tryz.underlying22 _ (la + 1) rfl rfl rfl (by omega) ?_)
  intro w1 hrow hk1
  have HROW := Lib.hid hrow; have HK1 := Lib.hid hk1
  clear hrow hk1
  go_wp2_with fail
  go_loopw [6, 15] (fun c i wr => ∃ (k c' : Nat) (zr : List Nat), k ≤ la ∧ i = .int .i64 k ∧ c = .int .u64 c' ∧ c' < 2 ^ s ∧ AddRel (List.replicate (la + 1) 0) 0 k c' (val (xs.take k) * 2 ^ s) zr ∧ Row wr w.heap.size 59 zr ∧ Only w.heap.size w1 wr) (fun _ i _ => la - (intOf i).toNat)
  case atStart => exact ⟨0, 0, _, by omega, rfl, rfl, by omega, by simpa [val] using AddRel.start _ 0 (Lt.replicate _), HROW.out, Only.refl _ _⟩
  case round =>
    obtain ⟨k, c', zr, hk, rfl, rfl, hc1, hrel', hrow, honly⟩ := hrel
    have HKR : Hid (Kp w wr) := Only.kp HK1.out honly (Nat.le_refl _)
    have hzl : zr.length = la + 1 := by rw [hrel'.len]; simp
    have HREL := Lib.hid hrel'; have HROW2 := Lib.hid hrow; have HON := Lib.hid honly
    clear hrel' hrow honly
    by_cases hlt : k < la
    · obtain ⟨b, off, rfl, hcx⟩ := (HAT.out.keep HKR.out).cells (by have := HLA.out; omega)
      have hcell := hcx k (by have := HLA.out; omega)
      have hxb := HXS.out k
      clear hcx
      obtain ⟨x, ex⟩ : ∃ x, x = xs[k]?.getD 0 := ⟨_, rfl⟩
      rw [← ex] at hcell hxb
      have EX := Lib.hid ex; clear ex
      have hcellz := HROW2.out.cell k (by omega)
      have hfree : wr.frozen? ⟨w.heap.size, k, none⟩ = false := HROW2.out.free _
      obtain ⟨z, ez⟩ : ∃ z, z = zr[k]?.getD 0 := ⟨_, rfl⟩
      rw [← ez] at hcellz
      clear ez
      have hor := or_up hs hc1 hxb
      have hmx : x * 2 ^ s ≤ 4294967295 * 2 ^ s := Nat.mul_le_mul_right _ (by omega)
      have hmi : (0 : Int) ≤ (x : Int) * 2 ^ s := by have : ((x : Int) * 2 ^ s) = ((x * 2 ^ s : Nat) : Int) := by rw [Int.natCast_mul, Int.natCast_pow]; rfl
                                                     rw [this]; exact Int.natCast_nonneg _
      have hmj : (x : Int) * 2 ^ s ≤ 9223372034707292160 := by have : ((x : Int) * 2 ^ s) = ((x * 2 ^ s : Nat) : Int) := by rw [Int.natCast_mul, Int.natCast_pow]; rfl
                                                               rw [this]; omega
      obtain ⟨t, ht⟩ : ∃ t, t = c' + x * 2 ^ s := ⟨_, rfl⟩
      rw [← ht] at hor
      have htb : t < 4294967296 * 2 ^ s := by omega
      have htb2 : t < 9223372036854775808 := by omega
      have HT := Lib.hid ht; have HTB := Lib.hid htb
      clear ht hmx htb
      go_wp2
      go_roundw
      case rel =>
        refine ⟨k + 1, t / 4294967296, _, by omega, vint (by omega), vint (by omega), by have := HTB.out; omega, ?_, HROW2.out.set' _ (t % 4294967296) _ (by omega), HON.out.set _ _⟩
        rw [val_take_succ, ← EX.out, Nat.add_mul, Nat.mul_assoc]
        have h0 : zr[0 + k]?.getD 0 = 0 := by rw [HREL.out.other (0 + k) (by omega), List.getElem?_replicate]; split <;> rfl
        have := HREL.out.step (by simp; omega) (x * 2 ^ s) t (by rw [h0, Nat.zero_add]; exact HT.out)
        rwa [Nat.zero_add] at this
      case measure => simp [intOf]; omega
    · have hkl : k = la := by omega
      subst hkl
      have hcellz := HROW2.out.cell k (by omega)
      have hfree : wr.frozen? ⟨w.heap.size, k, none⟩ = false := HROW2.out.free _
      obtain ⟨z, ez⟩ : ∃ z, z = zr[k]?.getD 0 := ⟨_, rfl⟩
      rw [← ez] at hcellz
      clear ez
      have hc3 : c' < 4294967296 := by omega
      have hm := mul_row HREL.out (by simp) (by rw [List.getElem?_replicate]; split <;> rfl) hc3
      rw [Nat.zero_add, val_zeros, Nat.pow_zero, Nat.one_mul, Nat.zero_add, List.take_of_length_le (by have := HLA.out; omega)] at hm
      have HM := Lib.hid hm; clear hm
      go_wp2_with fail
      refine FIN.out _ _ ⟨zr.set k c', rfl, HROW2.out.set' _ c' _ (by omega), HM.out.1, by simpa using hzl, HM.out.2.2.2.trans (Nat.zero_add _), ?_⟩ (Only.kp HK1.out (HON.out.set _ _) (Nat.le_refl _))
      rw [getD_set _ _ _ _ (by omega), if_pos rfl]; exact hc1

/-- A row shifted down in place. -/
structure Lowered (zs : List Nat) (s : Nat) (g : Nat) (t : TypeId) (w : World) (e : Ending) (w' : World) : Prop where
  e : e = .returned (.tuple #[])
  ex : ∃ zr, Row w' g t zr ∧ Lt zr ∧ zr.length = zs.length ∧ val zr = val zs / 2 ^ s
  only : Only g w w'
theorem shr_id {t s : Nat} : ((t : Int) / 2 ^ s) = ((t / 2 ^ s : Nat) : Int) := by rw [Int.natCast_ediv, Int.natCast_pow]; rfl
set_option maxRecDepth 100000 in
set_option maxHeartbeats 1000000 in
theorem shiftDown_any (g n cap : Nat) (t : TypeId) (zs : List Nat) (w : World) (hrow : Row w g t zs) (hzs : Lt zs) (hn : zs.length = n) (hnb : n ≤ 1000) (s : Nat) (hs : s < 32) :
    Calls Tryz.prog 147 #[.slice (some ⟨g, 0, none⟩) n cap, .int .i64 s] w (Lowered zs s g t w) := by
  have FIN : Hid (∀ w', (∃ zr, Row w' g t zr ∧ Lt zr ∧ zr.length = zs.length ∧ val zr = val zs / 2 ^ s) → Only g w w' → Lowered zs s g t w (.returned (.tuple #[])) w') := fun w' h k => ⟨rfl, h, k⟩
  obtain ⟨Q, hQ⟩ : ∃ Q, Q = Lowered zs s g t w := ⟨_, rfl⟩
  rw [← hQ] at FIN ⊢
  clear hQ
  have hsp := pow_lt32 hs
  have HROW := Lib.hid hrow; have HZS := Lib.hid hzs; have HN := Lib.hid hn
  clear hrow hzs hn
  go_enter Tryz.func147, Tryz.ntmps147
  go_wp2_with fail
  go_loopw [4, 5] (fun c i wr => ∃ (j : Int) (c' : Nat) (zr : List Nat), -1 ≤ j ∧ j < n ∧ i = .int .i64 j ∧ c = .int .u64 c' ∧ c' < 18446744073709551616 ∧ DownRel zs s (j + 1).toNat c' zr ∧ Row wr g t zr ∧ Only g w wr) (fun _ i _ => (intOf i + 1).toNat)
  case atStart => exact ⟨_, 0, _, by omega, by omega, rfl, rfl, by omega, by rw [show ((n : Int) - 1 + 1).toNat = zs.length by have := HN.out; omega]; exact DownRel.start s HZS.out, HROW.out, Only.refl _ _⟩
  case round =>
    obtain ⟨j, c', zr, hj1, hj2, rfl, rfl, hc1, hrel', hrow, honly⟩ := hrel
    have HREL := Lib.hid hrel'; have HROW2 := Lib.hid hrow; have HON := Lib.hid honly
    clear hrel' hrow honly
    by_cases hj : 0 ≤ j
    · obtain ⟨m, rfl⟩ := Int.eq_ofNat_of_zero_le hj
      have hrel2 := HREL.out
      rw [show ((m : Int) + 1).toNat = m + 1 by omega] at hrel2
      have HREL2 := Lib.hid hrel2; clear hrel2
      have hcell := HROW2.out.cell m (by have := HREL2.out.len; have := HN.out; omega)
      have hfree : wr.frozen? ⟨g, m, none⟩ = false := HROW2.out.free _
      rw [HREL2.out.low m (by omega)] at hcell
      have hxb := HZS.out m
      obtain ⟨x, ex⟩ : ∃ x, x = zs[m]?.getD 0 := ⟨_, rfl⟩
      rw [← ex] at hcell hxb
      have EX := Lib.hid ex; clear ex
      obtain ⟨u, hu⟩ : ∃ u, u = x + 4294967296 * (c' % 4294967296) := ⟨_, rfl⟩
      have hub : u < 18446744073709551616 := by omega
      have hsh : IntKind.u64.wrap ((c' : Int) * 4294967296) = ((c' % 4294967296 : Nat) : Int) * 4294967296 := by rw [IntKind.wrap_u64]; omega
      have hor : bits .or .u64 (IntKind.u64.wrap ((c' : Int) * 4294967296)) (x : Int) = (u : Int) := by rw [hsh, or_u64 hxb (by omega), hu]
      clear hsh
      have hst := HREL2.out.step hs (by have := HN.out; omega) HZS.out (t := u) (by rw [← EX.out]; exact hu)
      have hdv := shr_id (t := u) (s := s)
      obtain ⟨q, hq⟩ : ∃ q, q = u / 2 ^ s := ⟨_, rfl⟩
      rw [← hq] at hst hdv
      have hqb : q ≤ u := by rw [hq]; exact Nat.div_le_self _ _
      have HST := Lib.hid hst
      clear hst hq hu
      go_wp2
      go_roundw
      case rel => exact ⟨(m : Int) - 1, u, zr.set m (q % 4294967296), by omega, by omega, by go_num, vint (by omega), hub, by rw [show ((m : Int) - 1 + 1).toNat = m by omega]; exact HST.out.2, HROW2.out.set' _ (q % 4294967296) _ (by omega), HON.out.set _ _⟩
      case measure => simp [intOf]
    · have hj' : j = -1 := by omega
      subst hj'
      have hrel2 := HREL.out
      rw [show ((-1 : Int) + 1).toNat = 0 by omega] at hrel2
      have FIN2 : Hid (Q (.returned (.tuple #[])) wr) := FIN.out _ ⟨zr, HROW2.out, hrel2.lt, hrel2.len, by simpa using hrel2.quo⟩ HON.out
      clear hrel2
      go_wp2
      go_end0
      exact FIN2.out
end Go.Proofs.YtgpochhndjadhaaGreatDoor
