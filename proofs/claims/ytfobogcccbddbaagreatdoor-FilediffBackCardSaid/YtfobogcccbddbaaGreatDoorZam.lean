/- The reference's insert of a change. Condition: at most nine hundred changes. -/
import Derived.Test.YtfobogcccbddbaaGreatDoorZal
import Derived.Test.YtfobogcccbddbaaGreatDoorZab
import Derived.Test.YtfobogcccbddbaaGreatDoorZai
import Derived.Test.YtfobogcccbddbaaGreatDoorZaf
import Derived.Test.YtfobogcccbddbaaGreatDoorZad
namespace Go.Proofs.YtfobogcccbddbaaGreatDoor
namespace FdN
/-- Where a change is put. -/
def posC (x : Ch) : List Ch → Nat
  | [] => 0
  | y :: l => if bfr x y = true then 0 else posC x l + 1
theorem posC_le (x : Ch) : ∀ l : List Ch, posC x l ≤ l.length
  | [] => Nat.le_refl _
  | y :: l => by
    have := posC_le x l
    unfold posC
    split
    · exact Nat.zero_le _
    · simp; omega
theorem posC_lt {x : Ch} : ∀ {l : List Ch} {i : Nat} {y : Ch}, i < posC x l → l[i]? = some y → bfr x y = false
  | [], _, _, h, _ => by simp [posC] at h
  | z :: l, 0, y, h, hy => by
    obtain rfl : z = y := by simpa using hy
    unfold posC at h
    split at h
    · omega
    · rename_i hb; simpa using hb
  | z :: l, i + 1, y, h, hy => by
    unfold posC at h
    split at h
    · omega
    · exact posC_lt (l := l) (i := i) (by omega) (by simpa using hy)
theorem posC_at {x : Ch} : ∀ {l : List Ch} {y : Ch}, l[posC x l]? = some y → bfr x y = true
  | [], _, h => by simp at h
  | z :: l, y, h => by
    unfold posC at h
    split at h
    · rename_i hb
      obtain rfl : z = y := by simpa using h
      exact hb
    · exact posC_at (l := l) (by simpa using h)
theorem ins_pos (x : Ch) : ∀ l : List Ch, ins x l = l.take (posC x l) ++ x :: l.drop (posC x l)
  | [] => rfl
  | y :: l => by
    unfold ins posC
    split
    · rfl
    · rw [ins_pos x l]; rfl
end FdN
namespace By
open Go.RowKit WireN LexN RevN FdN
set_option linter.unusedVariables false
set_option linter.unusedSimpArgs false

theorem cz_ok : ChOk ((0, [], [], []) : Ch) := ⟨⟨by decide, by decide⟩, ⟨Lt.nil, Lt.nil, Lt.nil⟩, by simp, by simp, by simp⟩
theorem insC_shift {ks : List Ch} {p : Nat} (hp : p < ks.length) (z k : Ch) : ((((ks ++ [z]).take (p + 1)) ++ ((ks ++ [z]).drop p).take (ks.length + 1 - (p + 1))).set p k) = ks.take p ++ k :: ks.drop p := by
  have e1 : (ks ++ [z]).take (p + 1) = ks.take (p + 1) := by rw [List.take_append_of_le_length (by omega)]
  have e2 : ((ks ++ [z]).drop p).take (ks.length + 1 - (p + 1)) = ks.drop p := by
    rw [List.drop_append_of_le_length (by omega), List.take_append_of_le_length (by rw [List.length_drop]; omega)]
    exact List.take_of_length_le (by rw [List.length_drop]; omega)
  rw [e1, e2, List.take_add_one, List.append_assoc]
  rw [List.set_append_right _ _ (by rw [List.length_take]; omega)]
  have : p - (ks.take p).length = 0 := by rw [List.length_take]; omega
  rw [this, List.getElem?_eq_getElem hp]
  rfl
theorem insC_end {ks : List Ch} (z k : Ch) : (ks ++ [z]).set ks.length k = ks.take ks.length ++ k :: ks.drop ks.length := by
  rw [List.take_length, List.drop_length, List.set_append_right _ _ (Nat.le_refl _), Nat.sub_self]
  rfl
/-- What insert leaves: a row of one's own; nothing else has changed. -/
def InsR (w wx : World) (v : Value) (zs : List Ch) (e : Ending) (w' : World) : Prop :=
  ∃ v', e = .returned v' ∧ OwC w w' v' zs ∧ wx.heap.size ≤ w'.heap.size ∧ (∀ i, i < wx.heap.size → v.ownBlock ≠ some i → w'.heap[i]? = wx.heap[i]?) ∧ ∀ c, v'.ownBlock = some c → v.ownBlock = some c ∨ wx.heap.size ≤ c
theorem ins_same {wx X w3 Wf : World} {v : Value} {g : Nat} (hx : Kp wx X) (hg3 : X.grownBy w3 v.ownBlock) (ho : Only g w3 Wf) (hg : v.ownBlock = some g ∨ wx.heap.size ≤ g) :
    wx.heap.size ≤ Wf.heap.size ∧ ∀ i, i < wx.heap.size → v.ownBlock ≠ some i → Wf.heap[i]? = wx.heap[i]? := by
  have h1 := hx.size; have h2 := hg3.size; have h3 := ho.size
  refine ⟨by omega, fun i hi hne => ?_⟩
  rw [ho.block i (fun e => by rcases hg with h | h; exact hne (e ▸ h); omega), hg3.block i (by omega) (fun e => hne e.symm), hx.block i hi]
set_option maxRecDepth 100000 in
set_option maxHeartbeats 16000000 in
theorem rIns_any {w wx : World} {v : Value} {ks : List Ch} {k : Ch} (hown : OwC w wx v ks) (hk : ChOk k) (hl : ks.length ≤ 900) :
    Calls Tryz.prog 35 #[v, vC k] wx (InsR w wx v (ins k ks)) := by
  obtain ⟨Q, hQ⟩ : ∃ Q, Q = InsR w wx v (ins k ks) := ⟨_, rfl⟩
  rw [← hQ]
  have HQ := Lib.hid hQ
  obtain ⟨p, hp⟩ : ∃ p, p = posC k ks := ⟨_, rfl⟩
  have HP := Lib.hid hp
  have hpl : p ≤ ks.length := by rw [hp]; exact posC_le k ks
  have HZS : Hid (ins k ks = ks.take p ++ k :: ks.drop p) := Lib.hid (by rw [hp]; exact ins_pos k ks)
  have HKO := Lib.hid hk
  obtain ⟨W0, hW0⟩ : ∃ W, W = wx.alloc (.cells #[.int .i64 k.1, .string (st k.2.1), .string (st k.2.2.1), .string (st k.2.2.2)] 50) := ⟨_, rfl⟩
  have hk0 : Kp wx W0 := by rw [hW0]; exact kp_alloc _ _
  have bk : Blk W0 wx.heap.size 50 #[.int .i64 k.1, .string (st k.2.1), .string (st k.2.2.1), .string (st k.2.2.2)] := by rw [hW0]; exact Blk.new _ _ _
  have HO0 := Lib.hid (hown.keep hk0)
  have HBK := Lib.hid bk
  have HW0 := Lib.hid hW0; have HK0 := Lib.hid hk0
  have HNE : Hid (∀ b, v.ownBlock = some b → b < wx.heap.size) := Lib.hid (fun b hb => ((row_form hown.owns).2 b hb).2)
  obtain ⟨⟨va, n, vc, rfl⟩, -⟩ := row_form hown.owns
  have hnn : n = ks.length := by
    obtain ⟨_, _, e, -, -, -⟩ := hown.cw.open3
    simp only [Value.slice.injEq] at e
    exact e.2.1
  have hvc : n ≤ vc := by
    obtain ⟨_, _, e, h, -, -⟩ := hown.cw.open3
    simp only [Value.slice.injEq] at e
    omega
  have HN := Lib.hid hnn
  have i1 : (n : Int) ≤ (vc : Int) := by omega
  have i2 : (n : Int) ≤ 900 := by omega
  have hpn : p ≤ n := by omega
  obtain ⟨k1, k2, k3, k4⟩ := k
  simp only [vC] at bk HBK HW0 ⊢
  obtain ⟨S2, hS2⟩ : ∃ S, S = st k2 := ⟨_, rfl⟩
  obtain ⟨S3, hS3⟩ : ∃ S, S = st k3 := ⟨_, rfl⟩
  obtain ⟨S4, hS4⟩ : ∃ S, S = st k4 := ⟨_, rfl⟩
  rw [← hS2, ← hS3, ← hS4] at HBK HW0 ⊢
  have HS2 := Lib.hid hS2; have HS3 := Lib.hid hS3; have HS4 := Lib.hid hS4
  clear hp hpl hk hW0 hk0 bk hown hnn hvc hl hS2 hS3 hS4 hQ
  go_enter Tryz.func35, Tryz.ntmps35
  go_wp2_with fail
  rw [← HW0.out]
  go_loopw [5] (fun s wr => ∃ i : Nat, s = .int .i64 (i : Nat) ∧ i ≤ p ∧ Kp W0 wr) (fun s _ => p - (intOf s).toNat)
  case atStart => exact ⟨0, rfl, Nat.zero_le _, Kp.refl _⟩
  case round =>
    obtain ⟨i, rfl, hip, hkp⟩ := hrel
    rename World => wy
    have HKP := Lib.hid hkp
    have bk := HBK.out.keep hkp
    have b0 := bk.cell 0 rfl; have b1 := bk.cell 1 rfl; have b2 := bk.cell 2 rfl; have b3 := bk.cell 3 rfl
    clear hkp bk
    by_cases hin : i < n
    · obtain ⟨x, hx⟩ : ∃ x, ks[i]? = some x := ⟨_, List.getElem?_eq_getElem (by have := HN.out; omega)⟩
      have hxo : ChOk x := HO0.out.ok x (List.mem_of_getElem? hx)
      obtain ⟨b, off, rfl, hcell⟩ := ((HO0.out.keep HKP.out).cw).cell (by omega)
      have HCELL : Hid (∀ W, Kp wy W → C4 W b (off + i * 4) x ∧ (W.cell? ⟨wx.heap.size, 0, none⟩ = some (.int .i64 k1) ∧ W.cell? ⟨wx.heap.size, 1, none⟩ = some (.string S2) ∧ W.cell? ⟨wx.heap.size, 2, none⟩ = some (.string S3) ∧ W.cell? ⟨wx.heap.size, 3, none⟩ = some (.string S4))) := Lib.hid (fun W hk =>
        ⟨(hcell i x hx).keep hk, cell_kept b0 hk, cell_kept b1 hk, cell_kept b2 hk, cell_kept b3 hk⟩)
      have HLS := Lib.hid (fun W => rBef_any HKO.out hxo W)
      have HLT : Hid (bfr (k1, k2, k3, k4) x = decide (¬ i < p)) := Lib.hid (by
        by_cases h : i < p
        · rw [decide_eq_false (by omega)]
          rw [HP.out] at h
          exact posC_lt h hx
        · obtain rfl : i = p := by omega
          rw [decide_eq_true h]
          rw [HP.out] at hx
          exact posC_at hx)
      have HX := Lib.hid hx; have HXO := Lib.hid hxo
      obtain ⟨x1, x2, x3, x4⟩ := x
      simp only [vC] at HLS
      rw [← HS2.out, ← HS3.out, ← HS4.out, HLT.out] at HLS
      obtain ⟨T2, hT2⟩ : ∃ S, S = st x2 := ⟨_, rfl⟩
      obtain ⟨T3, hT3⟩ : ∃ S, S = st x3 := ⟨_, rfl⟩
      obtain ⟨T4, hT4⟩ : ∃ S, S = st x4 := ⟨_, rfl⟩
      simp only [C4] at HCELL
      rw [← hT2, ← hT3, ← hT4] at HLS HCELL
      have j1 : (i : Int) < (n : Int) := by omega
      obtain ⟨d, hd⟩ : ∃ d, d = decide (¬ i < p) := ⟨_, rfl⟩
      rw [← hd] at HLS
      have HD := Lib.hid hd
      clear hx hxo hcell hT2 hT3 hT4 b0 b1 b2 b3 hd
      go_wp2_with fail
      go_region_held3 (fun w' => (w'.cell? ⟨b, off + i * 4, none⟩ = some (.int .i64 x1) ∧ w'.cell? ⟨b, off + i * 4 + 1, none⟩ = some (.string T2) ∧ w'.cell? ⟨b, off + i * 4 + 2, none⟩ = some (.string T3) ∧ w'.cell? ⟨b, off + i * 4 + 3, none⟩ = some (.string T4)) ∧ (w'.cell? ⟨wx.heap.size, 0, none⟩ = some (.int .i64 k1) ∧ w'.cell? ⟨wx.heap.size, 1, none⟩ = some (.string S2) ∧ w'.cell? ⟨wx.heap.size, 2, none⟩ = some (.string S3) ∧ w'.cell? ⟨wx.heap.size, 3, none⟩ = some (.string S4)))
        (first
          | exact HCELL.out _ (Kp.refl _)
          | exact HCELL.out _ (kp_drew _)
          | exact HCELL.out _ hk2
          | fail "no keep")
        (first
          | (go_at_call 65; refine (HLS.out _).mono ?_; rintro e w2 ⟨rfl, hk2'⟩; have hk2 := Kp.trans (kp_drew wy) hk2')
          | fail "no arm")
      have HK2 := Lib.hid hk2
      clear hk2 hk2'
      by_cases hip2 : i < p
      · rw [decide_eq_false (by omega)] at HD
        obtain rfl := HD.out
        go_wp2_with fail
        go_roundw
        case rel => exact ⟨i + 1, by go_num, by omega, Kp.trans HKP.out HK2.out⟩
        case measure => simp [intOf]; omega
      · rw [decide_eq_true hip2] at HD
        obtain rfl := HD.out
        obtain rfl : i = p := by omega
        have hx1 : Kp wx (w2.alloc (.cells #[.int .i64 0, .string ⟨#[]⟩, .string ⟨#[]⟩, .string ⟨#[]⟩] 50)) := ((HK0.out.trans HKP.out).trans HK2.out).trans (kp_alloc _ _)
        have HX1 := Lib.hid hx1
        have HO2 := Lib.hid ((HO0.out.keep (Kp.trans HKP.out HK2.out)).keep (kp_alloc w2 (.cells #[.int .i64 0, .string ⟨#[]⟩, .string ⟨#[]⟩, .string ⟨#[]⟩] 50)))
        have HBN := Lib.hid (Blk.new w2 50 #[.int .i64 0, .string ⟨#[]⟩, .string ⟨#[]⟩, .string ⟨#[]⟩])
        have HB2 := Lib.hid ((HBK.out.keep (Kp.trans HKP.out HK2.out)).keep (kp_alloc w2 (.cells #[.int .i64 0, .string ⟨#[]⟩, .string ⟨#[]⟩, .string ⟨#[]⟩] 50)))
        have HS0 : Hid (wx.heap.size < w2.heap.size) := Lib.hid (by have := HBK.out.lt; have := (HKP.out.trans HK2.out).size; omega)
        clear hx1
        go_wp2_with (at_builtin; refine wpList_ch (w := w) rfl (.tmp 21) (.tmp 23) rfl _ rfl HO2.out (by have := HN.out; omega) (0, [], [], []) cz_ok w2.heap.size rfl HBN.out ?_)
        intro v' w3 ho3 hg3 ha3
        have HB3 := HB2.out.by hg3 (fun e => by have := HNE.out _ e.symm; omega)
        obtain ⟨g, c, rfl, hgw, hnc, hcm, hrk⟩ := ho3.rcc (by simp)
        have hgv : (Value.slice (some ⟨b, off, none⟩) n vc).ownBlock = some g ∨ wx.heap.size < g := by
          rcases ha3 with e | e
          · exact .inl e.symm
          · have e2 : g = w2.heap.size + 1 := by simpa [Value.ownBlock] using e
            have := HS0.out
            exact .inr (by omega)
        have hgne : g ≠ wx.heap.size := by
          rcases hgv with e | e
          · have := HNE.out _ e; omega
          · omega
        obtain ⟨N, hN⟩ : ∃ N, N = (ks ++ [((0, [], [], []) : Ch)]).length := ⟨_, rfl⟩
        have hNn : N = n + 1 := by rw [hN, List.length_append, HN.out]; rfl
        rw [← hN] at hnc ⊢
        obtain ⟨w5, kk, hcp, hr5, ho5⟩ := shift_c (hrk.keep (kp_drew w3)) (N := N) hN.symm (i := i) (by omega) hnc
        have HB5 := (HB3.keep (kp_drew w3)).other ho5 (fun e => hgne e.symm)
        have hk5 : Kp w w5 := Only.kp (Kp.trans ho3.kp (kp_drew w3)) ho5 hgw
        obtain ⟨z1, hz1⟩ : ∃ z1, z1 = (ks ++ [((0, [], [], []) : Ch)]).take (i + 1) ++ ((ks ++ [((0, [], [], []) : Ch)]).drop i).take (N - (i + 1)) := ⟨_, rfl⟩
        rw [← hz1] at hr5
        have hzl : z1.length = N := by rw [hz1, List.length_append, List.length_take, List.length_take, List.length_drop, ← hN]; omega
        obtain ⟨y, hy⟩ : ∃ y, z1[i]? = some y := ⟨_, List.getElem?_eq_getElem (by omega)⟩
        obtain ⟨d0, d1, d2, d3⟩ := hr5.rc.cell hy
        have f0 := hr5.rc.free (i * 4); have f1 := hr5.rc.free (i * 4 + 1); have f2 := hr5.rc.free (i * 4 + 2); have f3 := hr5.rc.free (i * 4 + 3)
        have b0 := HB5.cell 0 rfl; have b1 := HB5.cell 1 rfl; have b2 := HB5.cell 2 rfl; have b3 := HB5.cell 3 rfl
        have j2 : (i : Int) + 1 < (N : Int) := by omega
        have j3 : (N : Int) ≤ (c : Int) := by omega
        have j4 : (N : Int) ≤ 901 := by omega
        have j5 : (i : Int) < (N : Int) := by omega
        have j6 : (i : Int) ≤ (N : Int) := by omega
        have hset : z1.set i (k1, k2, k3, k4) = ins (k1, k2, k3, k4) ks := by
          rw [hz1, HZS.out, hN, List.length_append]
          exact insC_shift (by have := HN.out; omega) _ _
        have FIN : Hid (Q (.returned (.slice (some ⟨g, 0, none⟩) N c)) ((((w5.setCell ⟨g, i * 4, none⟩ (.int .i64 k1)).setCell ⟨g, i * 4 + 1, none⟩ (.string S2)).setCell ⟨g, i * 4 + 2, none⟩ (.string S3)).setCell ⟨g, i * 4 + 3, none⟩ (.string S4))) := Lib.hid (by
          have h6 := hr5.put (i := i) (by omega) (k1, k2, k3, k4)
          rw [hset] at h6
          have o6 := RC.only (w := w5) (g := g) i (k1, k2, k3, k4)
          rw [← HS2.out, ← HS3.out, ← HS4.out] at h6 o6
          have hsm := ins_same HX1.out hg3 ((⟨rfl, rfl, rfl, rfl, fun b _ => rfl⟩ : Only g w3 w3.drew).trans (ho5.trans o6)) (hgv.imp_right Nat.le_of_lt)
          rw [HQ.out]
          refine ⟨_, rfl, h6.own (by rw [← hset, List.length_set]; exact hzl) hnc hcm hgw (Only.kp hk5 o6 hgw) (fun q hq => ?_), hsm.1, hsm.2, fun c hc => ?_⟩
          · rcases ins_mem.1 hq with h | h
            · rw [h]; exact HKO.out
            · exact HO0.out.ok q h
          · have e : g = c := by simpa [Value.ownBlock] using hc
            rw [← e]
            exact hgv.imp_right Nat.le_of_lt)
        clear HB3 hgw hnc hcm hrk hgne hgv hN hNn hr5 ho5 HB5 hk5 hz1 hzl hy hset ho3 hg3 ha3
        go_wp2_with fail
        go_region
        go_wp2_with fail
        exact FIN.out
    · obtain rfl : i = p := by omega
      have hin' : i = n := by omega
      have HIN := Lib.hid hin'
      have hni : (n : Int) ≤ (i : Int) := by omega
      have hdi : decide (i < n) = false := decide_eq_false hin
      have hx1 : Kp wx (wy.drew.alloc (.cells #[.int .i64 0, .string ⟨#[]⟩, .string ⟨#[]⟩, .string ⟨#[]⟩] 50)) := ((HK0.out.trans HKP.out).trans (kp_drew _)).trans (kp_alloc _ _)
      have HX1 := Lib.hid hx1
      have HO2 := Lib.hid (((HO0.out.keep HKP.out).keep (kp_drew _)).keep (kp_alloc wy.drew (.cells #[.int .i64 0, .string ⟨#[]⟩, .string ⟨#[]⟩, .string ⟨#[]⟩] 50)))
      have HBN := Lib.hid (Blk.new wy.drew 50 #[.int .i64 0, .string ⟨#[]⟩, .string ⟨#[]⟩, .string ⟨#[]⟩])
      have HB2 := Lib.hid (((HBK.out.keep HKP.out).keep (kp_drew _)).keep (kp_alloc wy.drew (.cells #[.int .i64 0, .string ⟨#[]⟩, .string ⟨#[]⟩, .string ⟨#[]⟩] 50)))
      have HS0 : Hid (wx.heap.size < wy.heap.size) := Lib.hid (by have := HBK.out.lt; have := HKP.out.size; omega)
      clear hin hin' b0 b1 b2 b3 hx1
      go_wp2_with fail
      go_region
      go_wp2_with (at_builtin; refine wpList_ch (w := w) rfl (.tmp 21) (.tmp 23) rfl _ rfl HO2.out (by have := HN.out; omega) (0, [], [], []) cz_ok wy.heap.size rfl HBN.out ?_)
      intro v' w3 ho3 hg3 ha3
      have HB3 := HB2.out.by hg3 (fun e => by have := HNE.out _ e.symm; omega)
      obtain ⟨g, c, rfl, hgw, hnc, hcm, hrk⟩ := ho3.rcc (by simp)
      have hgv : (Value.slice va n vc).ownBlock = some g ∨ wx.heap.size < g := by
        rcases ha3 with e | e
        · exact .inl e.symm
        · have e2 : g = wy.drew.heap.size + 1 := by simpa [Value.ownBlock] using e
          have := HS0.out
          have e3 : wy.drew.heap.size = wy.heap.size := rfl
          exact .inr (by omega)
      obtain ⟨N, hN⟩ : ∃ N, N = (ks ++ [((0, [], [], []) : Ch)]).length := ⟨_, rfl⟩
      have hNn : N = i + 1 := by rw [hN, List.length_append, ← HN.out, HIN.out]; rfl
      rw [← hN] at hnc ⊢
      have HB4 := HB3.keep (kp_drew w3)
      have hr4 := hrk.keep (kp_drew w3)
      have hk4 : Kp w w3.drew := Kp.trans ho3.kp (kp_drew w3)
      obtain ⟨y, hy⟩ : ∃ y, (ks ++ [((0, [], [], []) : Ch)])[i]? = some y := ⟨_, List.getElem?_eq_getElem (by rw [← hN]; omega)⟩
      obtain ⟨d0, d1, d2, d3⟩ := hrk.rc.cell hy
      have f0 := hrk.rc.free (i * 4); have f1 := hrk.rc.free (i * 4 + 1); have f2 := hrk.rc.free (i * 4 + 2); have f3 := hrk.rc.free (i * 4 + 3)
      have b0 := HB3.cell 0 rfl; have b1 := HB3.cell 1 rfl; have b2 := HB3.cell 2 rfl; have b3 := HB3.cell 3 rfl
      have j2 : (i : Int) + 1 ≤ (N : Int) := by omega
      have j3 : (N : Int) ≤ (c : Int) := by omega
      have j4 : (N : Int) ≤ 901 := by omega
      have j5 : (i : Int) < (N : Int) := by omega
      have j6 : (i : Int) ≤ (N : Int) := by omega
      have hset : (ks ++ [((0, [], [], []) : Ch)]).set i (k1, k2, k3, k4) = ins (k1, k2, k3, k4) ks := by
        rw [HZS.out, HIN.out, HN.out]
        exact insC_end _ _
      have FIN : Hid (Q (.returned (.slice (some ⟨g, 0, none⟩) N c)) ((((w3.drew.setCell ⟨g, i * 4, none⟩ (.int .i64 k1)).setCell ⟨g, i * 4 + 1, none⟩ (.string S2)).setCell ⟨g, i * 4 + 2, none⟩ (.string S3)).setCell ⟨g, i * 4 + 3, none⟩ (.string S4))) := Lib.hid (by
        have h6 := hr4.put (i := i) (by rw [← hN]; omega) (k1, k2, k3, k4)
        rw [hset] at h6
        have o6 := RC.only (w := w3.drew) (g := g) i (k1, k2, k3, k4)
        rw [← HS2.out, ← HS3.out, ← HS4.out] at h6 o6
        have hsm := ins_same HX1.out hg3 ((⟨rfl, rfl, rfl, rfl, fun b _ => rfl⟩ : Only g w3 w3.drew).trans o6) (hgv.imp_right Nat.le_of_lt)
        rw [HQ.out]
        refine ⟨_, rfl, h6.own (by rw [← hset, List.length_set]; exact hN.symm) hnc hcm hgw (Only.kp hk4 o6 hgw) (fun q hq => ?_), hsm.1, hsm.2, fun c hc => ?_⟩
        · rcases ins_mem.1 hq with h | h
          · rw [h]; exact HKO.out
          · exact HO0.out.ok q h
        · have e : g = c := by simpa [Value.ownBlock] using hc
          rw [← e]
          exact hgv.imp_right Nat.le_of_lt)
      have hcp : ∀ (ty : TypeId) (d a : Addr) (c1 l2 c2 : Nat), (Builtin.copy_ #[33, 33] ty #[.slice (some d) 0 c1, .slice (some a) l2 c2]).run Tryz.prog w3.drew = .ok (goInt 0) w3.drew := by
        intro ty d a c1 l2 c2
        obtain ⟨inf, hi1, hi2, hi3, hi4⟩ := info_parts infoCh
        have hl : (loadCells a 0).run Tryz.prog w3.drew = .ok #[] w3.drew := by simpa using run_loadCells_list (P := Tryz.prog) w3.drew a [] (by simp)
        simp [Builtin.copy_, run_underlying Tryz.underlying33, Builtin.lenOf, Builtin.firstCells, sizeOf, typeInfo, hi1, hi3, hl, storeCells]
      clear HB3 hgw hcm hrk hgv hN ho3 hg3 ha3 HB4 hr4 hk4 hy hset
      by_cases hci : c = i + 1
      · subst hci
        clear hnc
        go_wp2_with fail
        go_region
        go_wp2_with fail
        exact FIN.out
      · have j7 : (i : Int) + 1 < (c : Int) := by omega
        clear hnc
        go_wp2_with fail
        go_region
        go_wp2_with fail
        exact FIN.out
end By
end Go.Proofs.YtfobogcccbddbaaGreatDoor

/- The reference's Diff: what its walk needs. No condition. -/
namespace Go.Proofs.YtfobogcccbddbaaGreatDoor
namespace FdN
open RevN LexN
theorem ins_len (x : Ch) : ∀ l : List Ch, (ins x l).length = l.length + 1
  | [] => rfl
  | y :: l => by
    unfold ins
    split
    · rfl
    · simp [ins_len x l]
theorem stepD_len (a g : List Fl) (s : List Bool × List Ch) (f : Fl) : (stepD a g s f).1.length = s.1.length ∧ (stepD a g s f).2.length ≤ s.2.length + 1 := by
  unfold stepD
  split
  · refine ⟨rfl, ?_⟩
    show (if _ then _ else _ : List Ch).length ≤ _
    split
    · omega
    · exact Nat.le_of_eq (ins_len _ _)
  · split
    · exact ⟨by rw [List.length_set], Nat.le_of_eq (ins_len _ _)⟩
    · exact ⟨rfl, Nat.le_of_eq (ins_len _ _)⟩
def gnk (a b : List Fl) (k : Nat) : List Fl := gn (a.take k) b
theorem gnk_step {a b : List Fl} {k : Nat} {f : Fl} (h : a[k]? = some f) : gnk a b (k + 1) = gnk a b k ++ (if hasP b f.1 = true then [] else [f]) := by
  unfold gnk gn
  rw [List.take_add_one, h, Option.toList_some, List.filter_append]
  congr 1
  cases hh : hasP b f.1 <;> simp [hh]
theorem gnk_all (a b : List Fl) {k : Nat} (h : a.length ≤ k) : gnk a b k = gn a b := by unfold gnk; rw [List.take_of_length_le h]
theorem gnk_len (a b : List Fl) (k : Nat) : (gnk a b k).length ≤ a.length := by
  unfold gnk gn
  refine Nat.le_trans (List.length_filter_le _ _) ?_
  rw [List.length_take]; omega
/-- The places used and the changes when k files of the second have been looked at. -/
def dk (a b : List Fl) (k : Nat) : List Bool × List Ch := (b.take k).foldl (stepD a (gn a b)) (List.replicate (gn a b).length false, [])
theorem dk_step {a b : List Fl} {k : Nat} {f : Fl} (h : b[k]? = some f) : dk a b (k + 1) = stepD a (gn a b) (dk a b k) f := by
  unfold dk
  rw [List.take_add_one, h, Option.toList_some, List.foldl_append]
  rfl
theorem dk_len (a b : List Fl) : ∀ k, k ≤ b.length → (dk a b k).1.length = (gn a b).length ∧ (dk a b k).2.length ≤ k
  | 0, _ => by simp [dk]
  | k + 1, h => by
    obtain ⟨h1, h2⟩ := dk_len a b k (by omega)
    have hf : b[k]? = some (b[k]'(by omega)) := List.getElem?_eq_getElem (by omega)
    rw [dk_step hf]
    have h3 := stepD_len a (gn a b) (dk a b k) (b[k]'(by omega))
    omega
theorem dk_all (a b : List Fl) {k : Nat} (h : b.length ≤ k) : dk a b k = dif1 a b := by unfold dk dif1; rw [List.take_of_length_le h]
def rk (a b : List Fl) (k : Nat) : List Ch := (List.range k).foldl (stepR (gn a b) (dif1 a b).1) (dif1 a b).2
theorem rk_step (a b : List Fl) (k : Nat) : rk a b (k + 1) = stepR (gn a b) (dif1 a b).1 (rk a b k) k := by
  unfold rk
  rw [List.range_succ, List.foldl_append]
  rfl
theorem stepR_len (g : List Fl) (us : List Bool) (D : List Ch) (i : Nat) : (stepR g us D i).length ≤ D.length + 1 := by
  unfold stepR
  split
  · omega
  · exact Nat.le_of_eq (ins_len _ _)
theorem rk_len (a b : List Fl) : ∀ k, (rk a b k).length ≤ (dif1 a b).2.length + k
  | 0 => by simp [rk]
  | k + 1 => by
    rw [rk_step]
    have h1 := stepR_len (gn a b) (dif1 a b).1 (rk a b k) k
    have h2 := rk_len a b k
    omega
def difE (a b : List Fl) : Nat := if chk a ≠ 0 ∨ chk b ≠ 0 then 1 else 0
def difA (a b : List Fl) : List Ch := if difE a b = 0 then difL a b else []
end FdN
namespace By
open Go.RowKit WireN LexN RevN FdN
set_option linter.unusedVariables false
set_option linter.unusedSimpArgs false

/-- The cells of booleans. -/
def bcelF (bs : List Bool) : List Value := bs.map Value.bool
theorem bcelF_at {bs : List Bool} {k : Nat} {x : Bool} (h : bs[k]? = some x) : (bcelF bs)[k]? = some (.bool x) := by simp [bcelF, h]
def BF (W : World) (g : Nat) (bs : List Bool) : Prop := Blk W g 4 (bcelF bs).toArray
theorem BF.cell {W : World} {g : Nat} {bs : List Bool} {k : Nat} {x : Bool} (h : BF W g bs) (hx : bs[k]? = some x) : W.cell? ⟨g, k, none⟩ = some (.bool x) := Blk.cell h k (by simpa using bcelF_at hx)
theorem BF.set {W : World} {g : Nat} {bs : List Bool} (h : BF W g bs) (k : Nat) (x : Bool) : BF (W.setCell ⟨g, k, none⟩ (.bool x)) g (bs.set k x) := by
  have := Blk.set h k (.bool x)
  unfold BF
  rw [show (bcelF (bs.set k x)).toArray = (bcelF bs).toArray.setIfInBounds k (.bool x) by simp [bcelF, List.map_set]]
  exact this
theorem infoBF : (Tryz.prog.info? 4).map (fun i => (i.zero, i.size, i.bytes)) = some (some (.bool false), 1, 1) := by kernel_rfl
theorem make_boolF {n : Nat} (hn : n ≤ 1000000) (W : World) : (Instr.makeSlice 69 (.int .i64 (n : Int)) (.int .i64 (n : Int))).run Tryz.prog W = .ok (.slice (some ⟨W.heap.size, 0, none⟩) n n) (W.alloc (.cells (bcelF (List.replicate n false)).toArray 4)) := by
  obtain ⟨i0, hi, hz0, hz1, hz2⟩ := info_parts infoBF
  have h := run_make (P := Tryz.prog) W 69 4 i0 (.bool false) Tryz.underlying69 hi hz0 .i64 .i64 (n : Int) (n : Int) (by omega) (Int.le_refl _) (by rw [hz2]; omega) (by omega)
  rw [hz1, Nat.mul_one, Int.toNat_natCast] at h
  rw [h]
  have e : madeCells (Value.bool false).cells n = (bcelF (List.replicate n false)).toArray := by
    apply Array.ext
    · simp [madeCells, bcelF]
    · intro i h1 h2
      simp [madeCells, bcelF, Value.cells, Nat.mod_one]
  rw [e]
theorem OwF.same {w wr w1 : World} {v : Value} {fs : List Fl} (h : OwF w wr v fs) (hk : Kp w w1) (hs : ∀ c, v.ownBlock = some c → w1.heap[c]? = wr.heap[c]?) : OwF w w1 v fs := by
  obtain ⟨h1, h2, h3, h4⟩ := h
  refine ⟨⟨h1.1, ?_⟩, h2, h3, hk⟩
  rcases h1.2 with e | ⟨g, cap, cur, e1, e2, e3, e4⟩
  · exact .inl e
  · refine .inr ⟨g, cap, cur, e1, e2, ?_, e4⟩
    rw [hs g (by rw [e1]; rfl)]
    exact e3
theorem OwC.same {w wr w1 : World} {v : Value} {fs : List Ch} (h : OwC w wr v fs) (hk : Kp w w1) (hs : ∀ c, v.ownBlock = some c → w1.heap[c]? = wr.heap[c]?) : OwC w w1 v fs := by
  obtain ⟨h1, h2, h3⟩ := h
  refine ⟨⟨h1.1, ?_⟩, h2, hk⟩
  rcases h1.2 with e | ⟨g, cap, cur, e1, e2, e3, e4⟩
  · exact .inl e
  · refine .inr ⟨g, cap, cur, e1, e2, ?_, e4⟩
    rw [hs g (by rw [e1]; rfl)]
    exact e3
/-- Diff's memory: the files that only the first has, the places used, the changes. -/
structure DfS (W wr : World) (gv : Value) (g : List Fl) (gb : Nat) (us : List Bool) (ov : Value) (D : List Ch) : Prop where
  go : OwF W wr gv g
  ub : BF wr gb us
  oc : OwC W wr ov D
  gw : W.heap.size ≤ gb
  d1 : ∀ c, gv.ownBlock = some c → c ≠ gb
  d2 : ∀ c, ov.ownBlock = some c → c ≠ gb ∧ gv.ownBlock ≠ some c
theorem DfS.keep {W wr w' : World} {gv ov : Value} {g : List Fl} {gb : Nat} {us : List Bool} {D : List Ch} (h : DfS W wr gv g gb us ov D) (hk : Kp wr w') : DfS W w' gv g gb us ov D :=
  ⟨h.go.keep hk, Blk.keep h.ub hk, h.oc.keep hk, h.gw, h.d1, h.d2⟩
theorem DfS.kp {W wr : World} {gv ov : Value} {g : List Fl} {gb : Nat} {us : List Bool} {D : List Ch} (h : DfS W wr gv g gb us ov D) : Kp W wr := h.oc.kp
/-- A change was put in. -/
theorem DfS.ins {W wx w' : World} {gv ov v' : Value} {g : List Fl} {gb : Nat} {us : List Bool} {D E : List Ch} (h : DfS W wx gv g gb us ov D) (ho : OwC W w' v' E)
    (hs : ∀ i, i < wx.heap.size → ov.ownBlock ≠ some i → w'.heap[i]? = wx.heap[i]?) (hv : ∀ c, v'.ownBlock = some c → ov.ownBlock = some c ∨ wx.heap.size ≤ c) : DfS W w' gv g gb us v' E := by
  have hgl : gb < wx.heap.size := Blk.lt h.ub
  have hvl : ∀ c, gv.ownBlock = some c → c < wx.heap.size := fun c hc => ((row_form h.go.owns).2 c hc).2
  refine ⟨h.go.same ho.kp (fun c hc => hs c (hvl c hc) (fun e => (h.d2 c e).2 hc)), ?_, ho, h.gw, h.d1, fun c hc => ?_⟩
  · have h2 : Blk wx gb 4 (bcelF us).toArray := h.ub
    show Blk w' gb 4 (bcelF us).toArray
    unfold Blk at h2 ⊢
    rw [hs gb hgl (fun e => (h.d2 gb e).1 rfl)]
    exact h2
  · rcases hv c hc with h1 | h1
    · exact h.d2 c h1
    · exact ⟨by omega, fun e => by have := hvl c e; omega⟩
/-- A place is used. -/
theorem DfS.use {W wx : World} {gv ov : Value} {g : List Fl} {gb : Nat} {us : List Bool} {D : List Ch} (h : DfS W wx gv g gb us ov D) (k : Nat) : DfS W (wx.setCell ⟨gb, k, none⟩ (.bool true)) gv g gb (us.set k true) ov D := by
  have ho : Only gb wx (wx.setCell ⟨gb, k, none⟩ (.bool true)) := (Only.refl gb wx).set k _
  exact ⟨h.go.only ho h.gw h.d1, h.ub.set k true, h.oc.only ho h.gw (fun c hc => (h.d2 c hc).1), h.gw, h.d1, h.d2⟩
/-- Another block of the call's own has changed. -/
theorem DfS.beside {W wx w' : World} {gv ov : Value} {g : List Fl} {gb r : Nat} {us : List Bool} {D : List Ch} (h : DfS W wx gv g gb us ov D) (ho : Only r wx w') (hr : W.heap.size ≤ r) (h1 : gb ≠ r) (h2 : ∀ c, gv.ownBlock = some c → c ≠ r) (h3 : ∀ c, ov.ownBlock = some c → c ≠ r) : DfS W w' gv g gb us ov D :=
  ⟨h.go.only ho hr h2, Blk.other h.ub ho h1, h.oc.only ho hr h3, h.gw, h.d1, h.d2⟩
/-- What Diff leaves. -/
def DifR (a b : List Fl) (w : World) (e : Ending) (w' : World) : Prop :=
  ∃ u, e = .returned (.tuple #[u, .int .i64 (difE a b : Nat)]) ∧ Cw w' u (difA a b) ∧ (∀ c, u.ownBlock = some c → w.heap.size ≤ c) ∧ Kp w w'
end By
end Go.Proofs.YtfobogcccbddbaaGreatDoor

/- What the program's functions are to answer, and the laws' sanity check over it. Conditions: the program's functions answer so; a package variable of the library holds some integer. -/
namespace Go.Proofs.YtfobogcccbddbaaGreatDoor
namespace FdN
open RevN
def aplA (a : List Fl) (l : List Ch) : Nat × List Fl := (aplE a l, if aplE a l = 0 then outL a l else [])
def invA (a : List Fl) (l : List Ch) : Nat × List Ch := (aplE a l, if aplE a l = 0 then difA (outL a l) a else [])
theorem difE_ok {a b : List Fl} (ha : chk a = 0) (hb : chk b = 0) : difE a b = 0 := by
  unfold difE
  rw [if_neg (by rw [ha, hb]; simp)]
theorem difA_ok {a b : List Fl} (ha : chk a = 0) (hb : chk b = 0) : difA a b = difL a b := by
  unfold difA
  rw [if_pos (difE_ok ha hb)]
theorem aplA_ok {a b : List Fl} {D : List Ch} (hd : Dif a b D) (ha : chk a = 0) (hb : chk b = 0) : aplA a D = (0, b) := by
  obtain ⟨h1, h2⟩ := hd.apply ha hb
  unfold aplA
  rw [h1, h2]
  rfl
theorem invA_ok {a b : List Fl} {D : List Ch} (hd : Dif a b D) (ha : chk a = 0) (hb : chk b = 0) : invA a D = (0, difL b a) := by
  obtain ⟨h1, h2⟩ := hd.apply ha hb
  unfold invA
  rw [h1, h2, difA_ok hb ha]
  rfl
end FdN
namespace By
open Go.RowKit Go.Shelf WireN LexN RevN FdN
set_option linter.unusedVariables false
set_option linter.unusedSimpArgs false

def ChgA (w : World) (r : Nat × List Ch) (e : Ending) (w' : World) : Prop :=
  ∃ u, e = .returned (.tuple #[u, .int .i64 (r.1 : Nat)]) ∧ Cw w' u r.2 ∧ (∀ c, u.ownBlock = some c → w.heap.size ≤ c) ∧ Kp w w'
def DiffC : Prop := ∀ (w : World) (va vb : Value) (a b : List Fl), MX w → Rw w va a → Rw w vb b → Calls Tryz.prog 9 #[.agg #[va], .agg #[vb]] w (ChgA w (difE a b, difA a b))
def ApplyC : Prop := ∀ (w : World) (va vl : Value) (a : List Fl) (l : List Ch), MX w → Rw w va a → Cw w vl l → l.length ≤ 200 → Calls Tryz.prog 15 #[.agg #[va], vl] w (RevR w (aplA a l))
def InvertC : Prop := ∀ (w : World) (va vl : Value) (a : List Fl) (l : List Ch), MX w → Rw w va a → Cw w vl l → l.length ≤ 200 → Calls Tryz.prog 18 #[.agg #[va], vl] w (ChgA w (invA a l))

/-- The files of the sanity check. -/
def A1 : List Fl := [([97], [49])]
def A2 : List Fl := [([98], [49]), ([99], [50])]
def A3 : List Ch := [(4, [98], [97], []), (1, [99], [], [50])]
theorem a1_chk : chk A1 = 0 := by decide +kernel
theorem a2_chk : chk A2 = 0 := by decide +kernel
theorem a12 : difL A1 A2 = A3 := by decide +kernel
theorem a21 : (difL A2 A1).length = 2 := by decide +kernel
theorem lt2 : Lt ([98] : List Nat) ∧ Lt ([97] : List Nat) := ⟨lt_dec (by decide +kernel), lt_dec (by decide +kernel)⟩
theorem rw_blk {w : World} {b cap n : Nat} {cur : Array Value} {fs : List Fl} (h : Blk w b 53 cur) (hc : ∀ (j : Nat) (f : Fl), fs[j]? = some f → cur[j * 2]? = some (.string (st f.1)) ∧ cur[j * 2 + 1]? = some (.string (st f.2)))
    (e : fs.length = n) (hn : n ≤ cap) (hm : cap ≤ maxLen) (hl : ∀ f ∈ fs, Lt f.1 ∧ Lt f.2) (hs : ∀ f ∈ fs, f.1.length ≤ maxLen ∧ f.2.length ≤ maxLen) : Rw w (.slice (some ⟨b, 0, none⟩) n cap) fs := by
  subst e
  refine ⟨⟨_, cap, rfl, hn, hm, .inr ⟨b, 0, rfl, fun j f hf => ?_⟩, fun h => nomatch h⟩, hl, hs⟩
  obtain ⟨c0, c1⟩ := hc j f hf
  exact ⟨h.cell _ (by rw [Nat.zero_add]; exact c0), h.cell _ (by rw [Nat.zero_add]; exact c1)⟩
theorem st49 : st [49] = ⟨#[49]⟩ := by decide +kernel
theorem st50 : st [50] = ⟨#[50]⟩ := by decide +kernel
theorem st97 : st [97] = ⟨#[97]⟩ := by decide +kernel
theorem st98 : st [98] = ⟨#[98]⟩ := by decide +kernel
theorem st99 : st [99] = ⟨#[99]⟩ := by decide +kernel
theorem a1_rw {w : World} {b : Nat} (h : Blk w b 53 #[.string ⟨#[97]⟩, .string ⟨#[49]⟩]) : Rw w (.slice (some ⟨b, 0, none⟩) 1 1) A1 := by
  refine rw_blk h (fun j f hf => ?_) rfl (by decide) (by decide) (fun f hf => ?_) (fun f hf => ?_)
  · match j, hf with
    | 0, hf => obtain rfl : ([97], [49]) = f := by simpa [A1] using hf
               exact ⟨by rw [st97]; rfl, by rw [st49]; rfl⟩
    | j + 1, hf => simp [A1] at hf
  · obtain rfl : f = ([97], [49]) := by simpa [A1] using hf
    exact ⟨lt_dec (by decide +kernel), lt_dec (by decide +kernel)⟩
  · obtain rfl : f = ([97], [49]) := by simpa [A1] using hf
    exact ⟨by decide, by decide⟩
theorem a2_rw {w : World} {b : Nat} (h : Blk w b 53 #[.string ⟨#[98]⟩, .string ⟨#[49]⟩, .string ⟨#[99]⟩, .string ⟨#[50]⟩]) : Rw w (.slice (some ⟨b, 0, none⟩) 2 2) A2 := by
  refine rw_blk h (fun j f hf => ?_) rfl (by decide) (by decide) (fun f hf => ?_) (fun f hf => ?_)
  · match j, hf with
    | 0, hf => obtain rfl : ([98], [49]) = f := by simpa [A2] using hf
               exact ⟨by rw [st98]; rfl, by rw [st49]; rfl⟩
    | 1, hf => obtain rfl : ([99], [50]) = f := by simpa [A2] using hf
               exact ⟨by rw [st99]; rfl, by rw [st50]; rfl⟩
    | j + 2, hf => simp [A2] at hf
  · have hf : f = ([98], [49]) ∨ f = ([99], [50]) := by simpa [A2] using hf
    rcases hf with rfl | rfl <;> exact ⟨lt_dec (by decide +kernel), lt_dec (by decide +kernel)⟩
  · have hf : f = ([98], [49]) ∨ f = ([99], [50]) := by simpa [A2] using hf
    rcases hf with rfl | rfl <;> exact ⟨by decide, by decide⟩
set_option maxRecDepth 100000 in
set_option maxHeartbeats 4000000 in
theorem awake15_any (HDC : DiffC) (HAC : ApplyC) (HIC : InvertC) {w : World} (hm : MX w) : Calls Tryz.prog 12 #[] w fun e w' => e = .returned (.bool true) ∧ Kp w w' := by
  obtain ⟨B, hB⟩ : ∃ B, B = A2 := ⟨_, rfl⟩
  obtain ⟨D, hD⟩ : ∃ D, D = A3 := ⟨_, rfl⟩
  obtain ⟨E, hE⟩ : ∃ E, E = difL A2 A1 := ⟨_, rfl⟩
  have hdif : Dif A1 A2 A3 := by rw [← a12]; exact dif_ok a1_chk a2_chk
  obtain ⟨Wa, hWa⟩ : ∃ W, W = w.alloc (.cells #[.string ⟨#[97]⟩, .string ⟨#[49]⟩] 53) := ⟨_, rfl⟩
  obtain ⟨Wb, hWb⟩ : ∃ W, W = Wa.alloc (.cells #[.slice (some ⟨w.heap.size, 0, none⟩) 1 1] 25) := ⟨_, rfl⟩
  obtain ⟨Wc, hWc⟩ : ∃ W, W = Wb.alloc (.cells #[.string ⟨#[98]⟩, .string ⟨#[49]⟩, .string ⟨#[99]⟩, .string ⟨#[50]⟩] 53) := ⟨_, rfl⟩
  obtain ⟨Wd, hWd⟩ : ∃ W, W = Wc.alloc (.cells #[.slice (some ⟨w.heap.size + 1 + 1, 0, none⟩) 2 2] 25) := ⟨_, rfl⟩
  have ka : Kp w Wa := by rw [hWa]; exact kp_alloc _ _
  have kb : Kp Wa Wb := by rw [hWb]; exact kp_alloc _ _
  have kc : Kp Wb Wc := by rw [hWc]; exact kp_alloc _ _
  have kd : Kp Wc Wd := by rw [hWd]; exact kp_alloc _ _
  have za : Wa.heap.size = w.heap.size + 1 := by rw [hWa]; simp
  have zb : Wb.heap.size = w.heap.size + 1 + 1 := by rw [hWb]; simp [za]
  have zc : Wc.heap.size = w.heap.size + 1 + 1 + 1 := by rw [hWc]; simp [zb]
  have ba : Blk Wd w.heap.size 53 #[.string ⟨#[97]⟩, .string ⟨#[49]⟩] := by
    have h : Blk Wa w.heap.size 53 #[.string ⟨#[97]⟩, .string ⟨#[49]⟩] := by rw [hWa]; exact Blk.new _ _ _
    exact ((h.keep kb).keep kc).keep kd
  have bb : Blk Wd (w.heap.size + 1) 25 #[.slice (some ⟨w.heap.size, 0, none⟩) 1 1] := by
    have h : Blk Wb (w.heap.size + 1) 25 #[.slice (some ⟨w.heap.size, 0, none⟩) 1 1] := by rw [hWb, ← za]; exact Blk.new _ _ _
    exact (h.keep kc).keep kd
  have bc : Blk Wd (w.heap.size + 1 + 1) 53 #[.string ⟨#[98]⟩, .string ⟨#[49]⟩, .string ⟨#[99]⟩, .string ⟨#[50]⟩] := by
    have h : Blk Wc (w.heap.size + 1 + 1) 53 #[.string ⟨#[98]⟩, .string ⟨#[49]⟩, .string ⟨#[99]⟩, .string ⟨#[50]⟩] := by rw [hWc, ← zb]; exact Blk.new _ _ _
    exact h.keep kd
  have bd : Blk Wd (w.heap.size + 1 + 1 + 1) 25 #[.slice (some ⟨w.heap.size + 1 + 1, 0, none⟩) 2 2] := by rw [hWd, ← zc]; exact Blk.new _ _ _
  have HWD : Hid (Wd = (((w.alloc (.cells #[.string ⟨#[97]⟩, .string ⟨#[49]⟩] 53)).alloc (.cells #[.slice (some ⟨w.heap.size, 0, none⟩) 1 1] 25)).alloc (.cells #[.string ⟨#[98]⟩, .string ⟨#[49]⟩, .string ⟨#[99]⟩, .string ⟨#[50]⟩] 53)).alloc (.cells #[.slice (some ⟨w.heap.size + 1 + 1, 0, none⟩) 2 2] 25)) := Lib.hid (by rw [hWd, hWc, hWb, hWa])
  have KD : Hid (Kp w Wd) := Lib.hid (((Kp.trans ka kb).trans kc).trans kd)
  have RA : Hid (Rw Wd (.slice (some ⟨w.heap.size, 0, none⟩) 1 1) A1) := Lib.hid (a1_rw ba)
  have RB : Hid (Rw Wd (.slice (some ⟨w.heap.size + 1 + 1, 0, none⟩) 2 2) B) := Lib.hid (by rw [hB]; exact a2_rw bc)
  have HM : Hid (∀ W, Kp Wd W → MX W) := Lib.hid (fun W h => hm.keep (Kp.trans KD.out h))
  have BB := Lib.hid bb; have BD := Lib.hid bd
  have HDI : Hid (∀ W va vb, Kp Wd W → Rw W va A1 → Rw W vb B → Calls Tryz.prog 9 #[.agg #[va], .agg #[vb]] W (ChgA W (0, D))) := Lib.hid (fun W va vb hk h1 h2 => by
    have h := HDC W va vb A1 B (HM.out W hk) h1 h2
    rw [hB, difE_ok a1_chk a2_chk, difA_ok a1_chk a2_chk, a12, ← hD] at h
    exact h)
  have HAP : Hid (∀ W va vl, Kp Wd W → Rw W va A1 → Cw W vl D → Calls Tryz.prog 15 #[.agg #[va], vl] W (RevR W (0, B))) := Lib.hid (fun W va vl hk h1 h2 => by
    have h := HAC W va vl A1 D (HM.out W hk) h1 h2 (by rw [hD]; decide)
    rw [hD, aplA_ok hdif a1_chk a2_chk, ← hB] at h
    exact h)
  have HIN : Hid (∀ W va vl, Kp Wd W → Rw W va A1 → Cw W vl D → Calls Tryz.prog 18 #[.agg #[va], vl] W (ChgA W (0, E))) := Lib.hid (fun W va vl hk h1 h2 => by
    have h := HIC W va vl A1 D (HM.out W hk) h1 h2 (by rw [hD]; decide)
    rw [hD, invA_ok hdif a1_chk a2_chk, ← hE] at h
    exact h)
  have HSA : Hid (∀ W u v, Rw W u B → Rw W v B → Calls Tryz.prog 17 #[.agg #[u], .agg #[v]] W fun e w' => e = .returned (.bool true) ∧ Kp W w') := Lib.hid (fun W u v h1 h2 => by
    have h := rSame_any h1 h2
    rw [decide_eq_true rfl] at h
    exact h)
  have HDX : Hid (D.length = 2 ∧ D[0]? = some (4, [98], [97], [])) := Lib.hid (by rw [hD]; exact ⟨rfl, rfl⟩)
  have HEL : Hid (E.length = 2) := Lib.hid (by rw [hE]; exact a21)
  have x1 := bb.cell 0 rfl; have x2 := bd.cell 0 rfl
  rw [HWD.out] at x1 x2
  clear HDC HAC HIC hm hB hD hE hdif hWa hWb hWc hWd ka kb kc kd za zb zc ba bb bc bd
  go_enter Tryz.func12, Tryz.ntmps12
  go_wp2_with fail
  rw [← HWD.out]
  refine (HDI.out Wd _ _ (Kp.refl _) RA.out RB.out).mono ?_
  rintro e w1 ⟨u1, rfl, hu1, -, hk1⟩
  obtain ⟨a1, c1, hv1, -, -, -⟩ := hu1.open3
  simp only at hu1 hv1
  rw [HDX.out.1] at hv1
  subst hv1
  have HU1 := Lib.hid hu1; have K1 := Lib.hid hk1
  have x1 := (BB.out.keep hk1).cell 0 rfl
  clear hu1 hk1
  go_wp2_with fail
  refine (HAP.out w1 _ _ K1.out (RA.out.keep K1.out) HU1.out).mono ?_
  rintro e w2 ⟨v2, rfl, hr2, -, hk2⟩
  obtain ⟨a2, l2, c2, hv2⟩ := hr2.form
  subst hv2
  obtain ⟨W3, hW3⟩ : ∃ W, W = w2.alloc (.cells #[.slice a2 l2 c2] 25) := ⟨_, rfl⟩
  have k3 : Kp w2 W3 := by rw [hW3]; exact kp_alloc _ _
  obtain ⟨rb, hrb⟩ : ∃ b, b = w2.heap.size := ⟨_, rfl⟩
  have B3 : Hid (Blk W3 rb 25 #[.slice a2 l2 c2]) := Lib.hid (by rw [hW3, hrb]; exact Blk.new _ _ _)
  have K3 := Lib.hid ((K1.out.trans hk2).trans k3)
  have HU3 := Lib.hid (HU1.out.keep (hk2.trans k3))
  have HR3 := Lib.hid (hr2.keep k3)
  have x1 := (BB.out.keep K3.out).cell 0 rfl
  rw [hW3] at x1
  have HW3 := Lib.hid hW3; have HRB := Lib.hid hrb
  clear hr2 hk2 hW3 k3 hrb
  go_wp2_with fail
  rw [← HW3.out, ← HRB.out]
  refine (HIN.out W3 _ _ K3.out (RA.out.keep K3.out) HU3.out).mono ?_
  rintro e w4 ⟨u4, rfl, hu4, -, hk4⟩
  obtain ⟨a4, c4, hv4, -, -, -⟩ := hu4.open3
  simp only at hu4 hv4
  rw [HEL.out] at hv4
  subst hv4
  have K4 := Lib.hid (K3.out.trans hk4)
  have HU4 := Lib.hid (HU3.out.keep hk4)
  obtain ⟨b, off, haa, hcell⟩ : ∃ b off, a1 = some ⟨b, off, none⟩ ∧ ∀ (j : Nat) (x : Ch), D[j]? = some x → C4 w4 b (off + j * 4) x := HU4.out.cell (by decide)
  subst haa
  obtain ⟨d0, d1, d2, d3⟩ := hcell 0 _ HDX.out.2
  simp only [Nat.zero_mul, Nat.add_zero] at d0 d1 d2 d3
  rw [st98] at d1
  rw [st97] at d2
  have e3 : st ([] : List Nat) = ⟨#[]⟩ := by decide +kernel
  rw [e3] at d3
  have x2 := (BD.out.keep K4.out).cell 0 rfl
  have x5 := (B3.out.keep hk4).cell 0 rfl
  have HS := Lib.hid (HSA.out w4 _ _ (HR3.out.keep hk4) (RB.out.keep K4.out))
  clear hu4 hk4 hcell e3
  go_wp2_with fail
  refine HS.out.mono ?_
  rintro e w6 ⟨rfl, hk6⟩
  have K6 := Lib.hid (K4.out.trans hk6)
  have K0 := Lib.hid (KD.out.trans K6.out)
  clear hk6 x2 x5 d0 d1 d2 d3
  go_wp2_with fail
  go_ret
  exact ⟨rfl, K0.out⟩
end By
end Go.Proofs.YtfobogcccbddbaaGreatDoor
