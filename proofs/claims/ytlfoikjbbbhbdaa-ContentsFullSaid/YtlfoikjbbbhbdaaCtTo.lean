/- The program's tableOf. No condition. -/
import Derived.Test.YtlfoikjbbbhbdaaCtTb
namespace Go.Proofs.Ytlfoikjbbbhbdaa
namespace By
open Go.RowKit WireN CtN
set_option linter.unusedVariables false
set_option linter.unusedSimpArgs false

/-- The texts, each once. -/
def dd (acc ts : List Tx) : List Tx := ts.foldl add acc
theorem dd_snoc (acc ts : List Tx) (x : Tx) : dd acc (ts ++ [x]) = add (dd acc ts) x := by simp [dd]
theorem dd_len : ∀ (ts acc : List Tx), (dd acc ts).length ≤ acc.length + ts.length
  | [], acc => Nat.le_refl _
  | x :: ts, acc => by
    have h1 := dd_len ts (add acc x)
    have h2 := (add_len acc x).2
    show (dd (add acc x) ts).length ≤ _
    simp only [List.length_cons]
    omega
theorem dd_nodup : ∀ (ts acc : List Tx), acc.Nodup → (dd acc ts).length = acc.length + ts.length → (acc ++ ts).Nodup
  | [], acc, h, _ => by simpa using h
  | x :: ts, acc, h, he => by
    have h1 := dd_len ts (add acc x)
    have he' : (dd (add acc x) ts).length = acc.length + (x :: ts).length := he
    simp only [List.length_cons] at he'
    by_cases hm : x ∈ acc
    · rw [add_in hm] at h1 he'
      omega
    · have h2 := dd_nodup ts (add acc x) (add_nodup h) (by rw [he', add_new hm]; simp; omega)
      rw [add_new hm] at h2
      simpa using h2
theorem dd_self : ∀ (ts acc : List Tx), (acc ++ ts).Nodup → dd acc ts = acc ++ ts
  | [], acc, _ => by simp [dd]
  | x :: ts, acc, h => by
    have hm : x ∉ acc := fun hm => by
      rw [List.nodup_append] at h
      exact h.2.2 x hm x List.mem_cons_self rfl
    show dd (add acc x) ts = _
    rw [add_new hm, dd_self ts (acc ++ [x]) (by simpa using h)]
    simp
theorem dd_take {ts : List Tx} {k : Nat} {x : Tx} (h : ts[k]? = some x) : dd [] (ts.take (k + 1)) = add (dd [] (ts.take k)) x := by
  rw [List.take_add_one, h, Option.toList_some, dd_snoc]
theorem err_big {ts : List Tx} (h : 4096 < ts.length) : err ts = 2 := if_pos h
theorem err_twice {ts : List Tx} (h : ¬ 4096 < ts.length) (h2 : (dd [] ts).length < ts.length) : err ts = 10 := by
  rw [err, if_neg h, if_neg]
  intro hn
  rw [dd_self ts [] hn] at h2
  simp at h2
theorem err_fine {ts : List Tx} (h : ¬ 4096 < ts.length) (h2 : ¬ (dd [] ts).length < ts.length) : err ts = 0 ∧ dd [] ts = ts := by
  have h3 := dd_len ts []
  simp only [List.length_nil, Nat.zero_add] at h3
  have h4 : ts.Nodup := by simpa using dd_nodup ts [] List.nodup_nil (by simp; omega)
  exact ⟨by rw [err, if_neg h, if_pos h4], by simpa using dd_self ts [] (by simpa using h4)⟩
/-- What tableOf leaves. -/
def TabR (ts : List Tx) (w : World) (e : Ending) (w' : World) : Prop :=
  Kp w w' ∧ ((err ts ≠ 0 ∧ e = .returned (.tuple #[.pointer none, .int .i64 (err ts : Nat)])) ∨
    (err ts = 0 ∧ ∃ p v b, e = .returned (.tuple #[.pointer (some ⟨p, 0, none⟩), .int .i64 0]) ∧ Tb w w' p v b ts))
theorem OwT.nilI (W w : World) (h : Kp W w) : OwT W w (.slice none 0 0) [] := (OwT.start W).keep h
theorem mkmap (n : Int) (w : World) : (Instr.makeMap 67 (some (.int .i64 n))).run Try.prog w = .ok (.map (some w.heap.size)) (w.alloc (.map #[] 0)) := by
  simp [Instr.makeMap, run_underlying Try.underlying67, asInt, asIntOf, Result.andThen]
set_option maxRecDepth 100000 in
set_option maxHeartbeats 4000000 in
theorem tableOf_any {w : World} {v : Value} {ts : List Tx} (hs : Tw w v ts) :
    Calls Try.prog 36 #[.agg #[v]] w (TabR ts w) := by
  obtain ⟨Q, hQ⟩ : ∃ Q, Q = TabR ts w := ⟨_, rfl⟩
  rw [← hQ]
  have BAD : Hid (∀ (E : Nat) (w' : World), E = err ts → E ≠ 0 → Kp w w' → Q (.returned (.tuple #[.pointer none, .int .i64 (E : Nat)])) w') := Lib.hid (by
    intro E w' h1 h2 h3
    rw [hQ]
    exact ⟨h3, .inl ⟨by rw [← h1]; exact h2, by rw [h1]⟩⟩)
  obtain ⟨W, hW⟩ : ∃ W, W = w.alloc (.cells #[v] 25) := ⟨_, rfl⟩
  have hk0 : Kp w W := by rw [hW]; exact kp_alloc _ _
  have b1 : Blk W w.heap.size 25 #[v] := by rw [hW]; exact Blk.new _ _ _
  have GOOD : Hid (∀ (p : Nat) (v : Value) (b : Nat) (w' : World), err ts = 0 → Tb W w' p v b ts → Q (.returned (.tuple #[.pointer (some ⟨p, 0, none⟩), .int .i64 0])) w') := Lib.hid (by
    intro p v b w' h1 h2
    rw [hQ]
    have h3 := h2.base hk0
    exact ⟨h3.kp, .inr ⟨h1, p, v, b, rfl, h3⟩⟩)
  have HW := Lib.hid hW; have HK := Lib.hid hk0; have HB1 := Lib.hid b1; have HS := Lib.hid hs
  have c0 := b1.cell 0 rfl
  obtain ⟨ao, cap, rfl, hcap, -, -⟩ := hs.open3
  obtain ⟨m, hm⟩ : ∃ m, m = ts.length := ⟨_, rfl⟩
  rw [← hm] at HW HB1 HS c0 hcap ⊢
  have HM := Lib.hid hm
  have i1 : (m : Int) ≤ (cap : Int) := by omega
  clear hs hk0 b1 hcap hm hQ
  by_cases hbig : 4096 < m
  · have F : Hid (2 = err ts) := Lib.hid (err_big (by rw [← HM.out]; exact hbig)).symm
    have j0 : (4096 : Int) < (m : Int) := by omega
    clear hbig hW
    go_enter Try.func36, Try.ntmps36
    go_wp2_with fail
    rw [← HW.out]
    exact BAD.out 2 _ F.out (by decide) HK.out
  · have j0 : (m : Int) ≤ 4096 := by omega
    have HSM : Hid (¬ 4096 < ts.length) := Lib.hid (by rw [← HM.out]; exact hbig)
    have hmk := mkmap (m : Int)
    obtain ⟨b, hb⟩ : ∃ b, b = W.heap.size := ⟨_, rfl⟩
    obtain ⟨p, hp⟩ : ∃ p, p = W.heap.size + 1 := ⟨_, rfl⟩
    obtain ⟨w2, hw2⟩ : ∃ w2, w2 = (W.alloc (.map #[] 0)).alloc (.cells #[.slice none 0 0, .map (some b)] 69) := ⟨_, rfl⟩
    have hk2 : Kp W w2 := by rw [hw2]; exact Kp.alloc (kp_alloc _ _) _
    have hT0 : Tb W w2 p (.slice none 0 0) b [] := by
      refine ⟨?_, OwT.nilI W w2 hk2, ?_, by omega, by omega, by omega, fun c hc => by simp [Value.ownBlock] at hc, fun c hc => by simp [Value.ownBlock] at hc⟩
      · have := Blk.new (W.alloc (.map #[] 0)) 69 #[.slice none 0 0, .map (some b)]
        rw [hw2, hp]
        simpa using this
      · rw [hw2, hb]
        exact (NM.made W).keep (kp_alloc _ _)
    have c2 := (HB1.out.keep hk2).cell 0 rfl
    have HT0 := Lib.hid hT0; have HW2 := Lib.hid hw2; have HBB := Lib.hid hb; have HP := Lib.hid hp
    have s1 : w.heap.size + 1 = W.heap.size := by rw [hW]; simp
    have s2 : w.heap.size + 1 = b := by omega
    have s3 : b + 1 = p := by omega
    have S2 := Lib.hid s2; have S3 := Lib.hid s3
    clear hbig hk2 hT0 hw2 hb hp hW s1 s2 s3
    go_enter Try.func36, Try.ntmps36
    go_wp2_with fail
    rw [S2.out, S3.out, ← HW.out, ← HW2.out]
    go_loopw [20] (fun i wr => ∃ (k : Nat) (v : Value), i = .int .i64 (k : Nat) ∧ k ≤ m ∧ Tb W wr p v b (dd [] (ts.take k))) (fun i _ => m - (intOf i).toNat)
    case atStart => exact ⟨0, _, rfl, Nat.zero_le _, HT0.out⟩
    case round =>
      obtain ⟨k, v, rfl, hk, hT⟩ := hrel
      rename World => wr
      have HT := Lib.hid hT
      by_cases hlt : k < m
      · obtain ⟨x, hx⟩ : ∃ x, ts[k]? = some x := ⟨_, List.getElem?_eq_getElem (by have := HM.out; omega)⟩
        have hxo : TxOk x := HS.out.ok x (List.mem_of_getElem? hx)
        obtain ⟨bb, off, rfl, hcell⟩ := (HS.out.keep (HK.out.trans hT.kp)).cell (by omega)
        have d0 := hcell k x hx
        have j1 : (k : Int) < (m : Int) := by omega
        have HD : Hid (dd [] (ts.take (k + 1)) = add (dd [] (ts.take k)) x) := Lib.hid (dd_take hx)
        have hl := dd_len (ts.take k) []
        rw [List.length_take] at hl
        simp only [List.length_nil] at hl
        have HC := Lib.hid (put_any hT (by omega) hxo)
        obtain ⟨X, hX⟩ : ∃ X, X = st x := ⟨_, rfl⟩
        rw [← hX] at d0 HC
        clear hcell hx hxo hl hT hX
        go_wp2_with fail
        refine HC.out.mono ?_
        rintro e w4 ⟨v', rfl, h4, -, -⟩
        rw [← HD.out] at h4
        have H4 := Lib.hid h4
        clear h4 d0
        go_wp2_with fail
        go_roundw
        case rel => exact ⟨k + 1, _, by go_num, by omega, H4.out⟩
        case measure => simp [intOf]; omega
      · obtain rfl : k = m := by omega
        have htk : ts.take k = ts := List.take_of_length_le (by have := HM.out; omega)
        rw [htk] at HT
        obtain ⟨⟨ua, ul, uc, rfl⟩, -⟩ := row_frc HT.out.ow.owns
        have HUL := Lib.hid HT.out.ow.tw.len
        have e0 := HT.out.blk.cell 0 rfl
        have e1 := (HB1.out.keep HT.out.kp).cell 0 rfl
        clear hT htk hlt hk
        by_cases hless : ul < k
        · have F : Hid (10 = err ts) := Lib.hid (err_twice HSM.out (by rw [← HUL.out, ← HM.out]; exact hless)).symm
          have j3 : (ul : Int) < (k : Int) := by omega
          clear hless
          go_wp2_with fail
          go_region
          go_wp2_with fail
          exact BAD.out 10 _ F.out (by decide) ((HK.out.trans HT.out.kp).trans (kp_drew _))
        · have F : Hid (err ts = 0 ∧ dd [] ts = ts) := Lib.hid (err_fine HSM.out (by rw [← HUL.out, ← HM.out]; exact hless))
          have j3 : (k : Int) ≤ (ul : Int) := by omega
          clear hless
          go_wp2_with fail
          go_region
          go_wp2_with fail
          exact GOOD.out p _ b _ F.out.1 (by rw [← F.out.2]; exact HT.out.keep (kp_drew _))
end By
end Go.Proofs.Ytlfoikjbbbhbdaa
