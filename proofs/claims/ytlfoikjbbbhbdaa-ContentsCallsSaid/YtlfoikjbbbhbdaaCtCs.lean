/- The law of all calls of contents. Conditions: the string is not too long for a string, the store that is handed has at most 10^13 texts. -/
import Derived.Test.YtlfoikjbbbhbdaaCtNx
import Derived.Test.YtlfoikjbbbhbdaaCtS
import Derived.Test.YtlfoikjbbbhbdaaCtBy
import Derived.Test.YtlfoikjbbbhbdaaMMg
import Derived.Test.YtlfoikjbbbhbdaaCtKk
import Derived.BigQuiet
namespace Go.Proofs.Ytlfoikjbbbhbdaa
namespace By
open Go.RowKit WireN LexN CtN
set_option linter.unusedVariables false
set_option linter.unusedSimpArgs false

set_option maxRecDepth 100000 in
set_option maxHeartbeats 1000000 in
theorem rPutT_bad {w : World} {v : Value} {ts : List Tx} (hs : Tw w v ts) (he : err ts ≠ 0) {x : Tx} :
    Calls Try.prog 14 #[.agg #[v], .string (st x)] w (PutR x ts w) := by
  obtain ⟨Q, hQ⟩ : ∃ Q, Q = PutR x ts w := ⟨_, rfl⟩
  rw [← hQ]
  obtain ⟨W, hW⟩ : ∃ W, W = (w.alloc (.cells #[v] 25)).alloc (.cells #[.slice none 0 0] 25) := ⟨_, rfl⟩
  have hk0 : Kp w W := by rw [hW]; exact Kp.alloc (kp_alloc _ _) _
  have b1 : Blk W w.heap.size 25 #[v] := by rw [hW]; exact (Blk.new _ _ _).keep (kp_alloc _ _)
  have b2 : Blk W (w.heap.size + 1) 25 #[.slice none 0 0] := by
    have := Blk.new (w.alloc (.cells #[v] 25)) 25 #[.slice none 0 0]
    rw [hW]
    simpa using this
  obtain ⟨E, hE⟩ : ∃ E, E = err ts := ⟨_, rfl⟩
  have hno := ptL_no (x := x) (ts := ts) (by rw [ptE_bad he]; exact he)
  have FIN : Hid (∀ (W' W2 : World) (A : Act), W2 = W'.setCell ⟨w.heap.size + 1, 0, none⟩ (.slice none 0 0) → Blk W' (w.heap.size + 1) 25 #[.slice none 0 0] → Kp w W' → A.defers = [] → A.tmps.getD 4 undef = .pointer (some ⟨w.heap.size + 1, 0, none⟩) → A.tmps.getD 5 undef = .int .i64 0 → A.tmps.getD 6 undef = .int .i64 (E : Nat) →
      bodyPost Try.prog Try.f14 Q .ret A W2) := Lib.hid (by
    intro W' W2 A hw2 hb hk h0 h4 h5 h6
    rw [hb.selfT (i := 0) (v := .slice none 0 0) rfl] at hw2
    subst hw2
    have e0 := hb.cell 0 rfl
    have h4' : A.tmps[4]?.getD undef = .pointer (some ⟨w.heap.size + 1, 0, none⟩) := by simpa using h4
    have h5' : A.tmps[5]?.getD undef = .int .i64 0 := by simpa using h5
    have h6' : A.tmps[6]?.getD undef = .int .i64 (E : Nat) := by simpa using h6
    refine bodyPost_ret (v := .tuple #[.agg #[.slice none 0 0], .int .i64 0, .int .i64 (E : Nat)]) (by simp [results, Try.results14, go_sem, h4', h5', h6', e0]) h0 ?_
    rw [hQ]
    exact ⟨.slice none 0 0, by rw [hno.2, ptE_bad he, hE]; rfl, by rw [hno.1]; exact Tw.nil _, fun b hb2 => by simp [Value.ownBlock] at hb2, hk⟩)
  have HB := Lib.hid (rCheckT_any (hs.keep hk0))
  have HW := Lib.hid hW; have HK := Lib.hid hk0; have HB2 := Lib.hid b2
  have c0 := b1.cell 0 rfl
  obtain ⟨ao, cap, rfl, -, -, -⟩ := hs.open3
  rw [← hE] at HB he
  have q : ((E : Int) != 0) = true := by simp; omega
  clear hs hk0 b1 b2 hW hE hQ he hno
  go_enter Try.func14, Try.ntmps14
  go_wp2_with fail
  rw [← HW.out]
  refine HB.out.mono ?_
  rintro e w1 ⟨rfl, hk1⟩
  have hb4 := HB2.out.keep hk1
  have HB4 := Lib.hid hb4; have HK1 := Lib.hid (HK.out.trans hk1)
  have f4 := hb4.free 0; have d4 := hb4.cell 0 rfl
  clear hk1 c0 hb4
  go_wp2_with fail
  first
  | exact FIN.out w1 _ _ rfl HB4.out HK1.out rfl rfl rfl rfl
  | exact FIN.out w1 _ _ (HB4.out.selfT (i := 0) (v := .slice none 0 0) rfl).symm HB4.out HK1.out rfl rfl rfl rfl
theorem rPutT_all {w : World} {v : Value} {ts : List Tx} (hs : Tw w v ts) {x : Tx} (hx : TxOk x) :
    Calls Try.prog 14 #[.agg #[v], .string (st x)] w (PutR x ts w) := by
  by_cases h : err ts = 0
  · exact rPutT_any hs (by have := (err_ok.1 h).1; omega) hx
  · exact rPutT_bad hs h
theorem Tw.own_lt {w : World} {v : Value} {ts : List Tx} (h : Tw w v ts) : ts = [] ∨ ∀ c, v.ownBlock = some c → c < w.heap.size := by
  by_cases h0 : ts = []
  · exact .inl h0
  · refine .inr fun c hc => ?_
    obtain ⟨ao, cap, rfl, -⟩ := h.open3
    obtain ⟨bb, off, e, hcell⟩ := h.cell (List.length_pos_iff.2 h0)
    subst e
    have h1 : bb = c := by simpa [Value.ownBlock] using hc
    have h2 := World.block_lt_of_cell? w _ (hcell 0 _ (List.getElem?_eq_getElem (List.length_pos_iff.2 h0)))
    simp only at h2
    omega
theorem Tw.empty_any {w w' : World} {v : Value} (h : Tw w v []) : Tw w' v [] := by
  obtain ⟨⟨ao, cap, h1, h2, h3, h4, h5⟩, hl⟩ := h
  exact ⟨⟨ao, cap, h1, h2, h3, .inl rfl, h5⟩, hl⟩
/-- The texts do not lie in block g. -/
def Far (g : Nat) (v : Value) (ts : List Tx) : Prop := ts = [] ∨ ∀ c, v.ownBlock = some c → c ≠ g
theorem Tw.far {w w' : World} {g : Nat} {v : Value} {ts : List Tx} (h : Tw w v ts) (hg : Gr g w w') (hf : Far g v ts) : Tw w' v ts := by
  rcases hf with rfl | hf
  · exact h.empty_any
  · exact h.by hg (fun c hc e => hf c hc (Option.some.inj e).symm)
theorem ptL_few (x : Tx) (ts : List Tx) : (ptL x ts).length ≤ 1000000 := by
  by_cases h : ptE x ts = 0
  · rw [(ptL_ok h).1]
    have h1 : err ts = 0 := by
      by_cases h2 : err ts = 0
      · exact h2
      · rw [ptE_bad h2] at h; exact h
    have h3 := (err_ok.1 h1).1
    have h4 := (add_len ts x).2
    omega
  · rw [(ptL_no h).1]; simp
theorem kp_few (s : List Tx) (u : List Int) : (kpL s u).length ≤ 1000000 ∧ (kpN s u).length ≤ 1000000 := by
  by_cases h : kpE s u = 0
  · rw [(kpL_ok h).1, (kpL_ok h).2]
    have h1 : err s = 0 := by
      by_cases h2 : err s = 0
      · exact h2
      · rw [kpE, if_pos h2] at h; exact h
    have h3 := (err_ok.1 h1).1
    have h4 := kps_len u s 0 0
    omega
  · rw [(kpL_no h).1, (kpL_no h).2]; simp
theorem mg_few (a b : List Tx) : (mgL a b).length ≤ 1000000 ∧ (mgN a b).length ≤ 1000000 := by
  by_cases h : mgE a b = 0
  · rw [(mgL_ok h).1, (mgL_ok h).2]
    have h0 := h
    unfold mgE at h0
    have h1 : err a = 0 := by
      by_cases h2 : err a = 0
      · exact h2
      · rw [if_pos h2] at h0; exact h0
    rw [if_neg (by simp [h1])] at h0
    have h2 : err b = 0 := by
      by_cases h2 : err b = 0
      · exact h2
      · rw [if_pos h2] at h0; exact h0
    have h3 := (err_ok.1 h1).1
    have h4 := (err_ok.1 h2).1
    have h5 := mrg_len b a
    rw [List.length_map]
    omega
  · rw [(mgL_no h).1, (mgL_no h).2]; simp
set_option maxRecDepth 100000 in
set_option maxHeartbeats 32000000 in
theorem ctCalls_any {zs : List Int} {v vr : Value} {rs : List Tx} {w : World} (hz : SlI w v zs) (hr : Tw w vr rs) (hrl : rs.length ≤ 10000000000000) {s : Tx} (hs : TxOk s) (nn : Int) (hnn : -9223372036854775808 ≤ nn ∧ nn ≤ 9223372036854775807) :
    Calls Try.prog 3 #[v, .agg #[vr], .string (st s), .int .i64 nn] w fun e w' => e = .returned (.bool true) ∧ Kp w w' := by
  have hz' := hz
  obtain ⟨⟨ao, cap, rfl, hc, hmx, hat2⟩, hlt, hsm⟩ := hz
  obtain ⟨len0, hlen⟩ : ∃ len, len = zs.length := ⟨_, rfl⟩
  rw [← hlen] at hz' ⊢
  obtain ⟨q1, q3, rfl, -⟩ := hr.open3
  obtain ⟨rn, hrn⟩ : ∃ rn, rn = rs.length := ⟨_, rfl⟩
  rw [← hrn] at hr hrl ⊢
  obtain ⟨w1, hw1⟩ : ∃ w1, w1 = (w.alloc (Obj.cells #[.slice q1 rn q3] 25)).alloc (Obj.cells #[.slice ao len0 cap, .int .i64 0] 28) := ⟨_, rfl⟩
  obtain ⟨g, hg⟩ : ∃ g, g = w.heap.size + 1 := ⟨_, rfl⟩
  have hkw1 : Kp w w1 := by rw [hw1]; exact Kp.alloc (kp_alloc _ _) _
  have htp : Tp w w1 g 0 := by
    refine ⟨⟨ao, len0, cap, zs, hz', ?_⟩, hkw1, by omega⟩
    have := Blk.new (w.alloc (Obj.cells #[.slice q1 rn q3] 25)) 28 #[.slice ao len0 cap, .int .i64 0]
    rw [hw1, hg]
    simpa using this
  have HBR : Hid (Blk w1 w.heap.size 25 #[.slice q1 rn q3]) := Lib.hid (by rw [hw1]; exact (Blk.new _ _ _).keep (kp_alloc _ _))
  have HSP := Lib.hid (storeL_any (n := 54) ⟨0, by omega, htp⟩)
  have HW1 := Lib.hid hw1; have HGD := Lib.hid hg
  have HS1 : Hid (w1.heap.size = g + 1) := Lib.hid (by rw [hw1, hg]; simp)
  have HRR := Lib.hid hr; have HRN := Lib.hid hrn; have HRL := Lib.hid hrl; have HKW1 := Lib.hid hkw1
  obtain ⟨S, hS⟩ : ∃ S, S = st s := ⟨_, rfl⟩
  rw [← hS]
  have HSE := Lib.hid hS; have HSO := Lib.hid hs
  clear hz' hc hmx hat2 hlt hsm hlen hw1 htp hS hs hr hrl hrn hkw1 hg
  go_enter Try.func3, Try.ntmps3
  go_wp2_with fail
  rw [← HGD.out, ← HW1.out]
  refine HSP.out.mono ?_
  rintro e w2 ⟨ua, a, rfl, hta, hal, -, han, hq2, hg2⟩
  have HTA := Lib.hid hta; have HAL := Lib.hid hal; have HAB := Lib.hid han; have HG2 := Lib.hid hg2
  have HSP2 := Lib.hid (storeL_any (n := 13) hq2)
  obtain ⟨a1, a3, rfl, -⟩ := hta.open3
  obtain ⟨an, hna⟩ : ∃ l, l = a.length := ⟨_, rfl⟩
  rw [← hna] at HTA HAB ⊢
  have HAN := Lib.hid hna
  clear hta hal han hq2 hg2 hna
  go_wp2_with fail
  refine HSP2.out.mono ?_
  rintro e w3 ⟨ub, b, rfl, htb, hbl, -, hbw, hq3, hg3⟩
  have hta3 : Tw w3 (.slice a1 an a3) a := HTA.out.by hg3 (fun c hc e => by injection e with e; have := HAB.out c hc; have := HS1.out; omega)
  obtain ⟨e1, e3, rfl, -⟩ := htb.open3
  obtain ⟨en, hen⟩ : ∃ l, l = b.length := ⟨_, rfl⟩
  rw [← hen] at htb hbw ⊢
  have HEN := Lib.hid hen; have HEL := Lib.hid hbl
  obtain ⟨W0, hW0⟩ : ∃ W, W = (w3.alloc (.cells #[.slice a1 an a3] 25)).alloc (.cells #[.slice e1 en e3] 25) := ⟨_, rfl⟩
  obtain ⟨gA, hgA⟩ : ∃ gA, gA = w3.heap.size := ⟨_, rfl⟩
  have hk0 : Kp w3 W0 := by rw [hW0]; exact Kp.alloc (kp_alloc _ _) _
  have B1 : Hid (Blk W0 gA 25 #[.slice a1 an a3]) := Lib.hid (by rw [hW0, hgA]; exact (Blk.new _ _ _).keep (kp_alloc _ _))
  have B2 : Hid (Blk W0 (gA + 1) 25 #[.slice e1 en e3]) := Lib.hid (by
    have := Blk.new (w3.alloc (.cells #[.slice a1 an a3] 25)) 25 #[.slice e1 en e3]
    rw [hW0, hgA]
    simpa using this)
  have HAB2 : Hid (a = [] ∨ ∀ c, (Value.slice a1 an a3).ownBlock = some c → c < gA) := Lib.hid (by rw [hgA]; exact hta3.own_lt)
  have TA := Lib.hid (hta3.keep hk0); have TB := Lib.hid (htb.keep hk0)
  have HGAA : Hid (w.heap.size ≤ g ∧ g < gA ∧ gA + 2 = W0.heap.size) := Lib.hid ⟨hq3.ge, by rw [hgA]; exact hq3.lt, by rw [hW0, hgA]; simp⟩
  have HAG : Hid (Far g (.slice a1 an a3) a) := Lib.hid (.inr fun c hc => by have := HAB.out c hc; have := HS1.out; omega)
  have HBG : Hid (Far g (.slice e1 en e3) b) := Lib.hid (.inr fun c hc => by have h1 := hbw c hc; have h2 := HG2.out.size; have := HS1.out; omega)
  have HRB : Hid (Blk W0 w.heap.size 25 #[.slice q1 rn q3]) := Lib.hid (((HBR.out.by HG2.out (fun e => by injection e with e; have := HGD.out; omega)).by hg3 (fun e => by injection e with e; have := HGD.out; omega)).keep hk0)
  have HCH := Lib.hid (Chance_q (n := 12) (hq3.keep hk0) 1 5 (by omega) (by omega))
  have HW0 := Lib.hid hW0; have HGA := Lib.hid hgA
  have HKW0 : Hid (Kp w W0) := Lib.hid (hq3.base.trans hk0)
  clear hta3 htb hbl hbw hq3 hg3 hen hW0 hgA hk0 HSP HSP2 HTA
  go_wp2_with fail
  rw [← HGA.out, ← HW0.out]
  refine HCH.out.mono ?_
  rintro e w4 ⟨⟨c, rfl⟩, hq4, hg4⟩
  have hBA4 := B1.out.by hg4 (fun e => by injection e with e; have := HGAA.out; omega)
  have hBB4 := B2.out.by hg4 (fun e => by injection e with e; have := HGAA.out; omega)
  have hBR4 := HRB.out.by hg4 (fun e => by injection e with e; have := HGD.out; omega)
  have hTA4 := TA.out.far hg4 HAG.out
  have hTB4 := TB.out.far hg4 HBG.out
  have hG4 : w.heap.size ≤ g ∧ g < w4.heap.size ∧ gA < w4.heap.size ∧ g < gA := by have := HGAA.out; have := hg4.size; omega
  have hKW4 : Kp w w4 := hq4.base
  cases c with
  | false =>
    obtain ⟨b1, rfl⟩ : ∃ b1, b1 = e1 := ⟨_, rfl⟩
    obtain ⟨b3, rfl⟩ : ∃ b3, b3 = e3 := ⟨_, rfl⟩
    obtain ⟨bn, rfl⟩ : ∃ bn, bn = en := ⟨_, rfl⟩
    obtain ⟨bs, rfl⟩ : ∃ bs, bs = b := ⟨_, rfl⟩
    have hbn : bn = bs.length := HEN.out
    have hbl : bs.length ≤ 10000000000000 := by have := HEL.out; omega
    have hbg : Far g (.slice b1 bn b3) bs := HBG.out
    clear HBG
    obtain ⟨W5, hW5⟩ : ∃ W5, W5 = w4 := ⟨_, rfl⟩
    rw [← hW5] at hBA4 hBB4 hTA4 hTB4 hq4 hG4
    have hTA := hTA4; have hTB := hTB4; have hBA := hBA4; have hBB := hBB4; have hQ5 := hq4; have hG5 := hG4; have hag := HAG.out
    clear HAG
    have HG5 : Hid (w.heap.size ≤ g ∧ g < W5.heap.size ∧ gA < W5.heap.size ∧ g < gA) := Lib.hid hG5
    obtain ⟨W6, hW6⟩ : ∃ W, W = W5.alloc (.cells #[.slice a1 an a3, .slice b1 bn b3] 25) := ⟨_, rfl⟩
    obtain ⟨gS, hgS⟩ : ∃ gS, gS = W5.heap.size := ⟨_, rfl⟩
    have hk6 : Kp W5 W6 := by rw [hW6]; exact kp_alloc _ _
    have TA6 := Lib.hid (hTA.keep hk6); have TB6 := Lib.hid (hTB.keep hk6)
    have HAG := Lib.hid hag; have HBG := Lib.hid hbg
    have HQ6 : Hid (Tq w W6 g 12) := Lib.hid (hQ5.keep hk6)
    have HCA : Hid (W6.cell? ⟨gA, 0, none⟩ = some (.slice a1 an a3)) := Lib.hid ((hBA.keep hk6).cell 0 rfl)
    have HCB : Hid (W6.cell? ⟨gA + 1, 0, none⟩ = some (.slice b1 bn b3)) := Lib.hid ((hBB.keep hk6).cell 0 rfl)
    have HGA6 : Hid (gA ≠ g) := Lib.hid (by have := HG5.out; omega)
    have HGB6 : Hid (gA + 1 ≠ g) := Lib.hid (by have := HG5.out; omega)
    have HGS : Hid (gS ≠ g) := Lib.hid (by have := HG5.out; omega)
    have HCX : Hid (∀ j, j < 2 → ∃ x1 x3 xs, Tw W6 (.slice x1 xs.length x3) xs ∧ W6.cell? ⟨gS, j, none⟩ = some (.slice x1 xs.length x3) ∧ Far g (.slice x1 xs.length x3) xs ∧ xs.length ≤ 10000000000000) := Lib.hid (by
      have hb : Blk W6 gS 25 #[.slice a1 an a3, .slice b1 bn b3] := by rw [hW6, hgS]; exact Blk.new _ _ _
      intro j hj
      rcases j with _ | _ | j
      · exact ⟨a1, a3, a, by rw [← HAN.out]; exact TA6.out, by rw [← HAN.out]; exact hb.cell 0 rfl, by rw [← HAN.out]; exact hag, by have := HAL.out; omega⟩
      · exact ⟨b1, b3, bs, by rw [← hbn]; exact TB6.out, by rw [← hbn]; exact hb.cell 1 rfl, by rw [← hbn]; exact hbg, hbl⟩
      · omega)
    have c10 := hBA.cell 0 rfl; have c11 := hBB.cell 0 rfl
    rw [hW5] at c10 c11
    rw [hW5] at hW6 hgS
    have HW6 := Lib.hid hW6; have HGSE := Lib.hid hgS
    clear hW6 hgS hk6 hW5 hbn hbl hbg hag hTA hTB hBA hBB hQ5 hG5 hTA4 hTB4 hBA4 hBB4 hq4 hG4 hg4 hBR4 hKW4 hnn
    go_wp2_with fail
    rw [← HW6.out, ← HGSE.out]
    clear c10 c11
    go_loopw [60] (fun iv wr => ∃ j : Nat, iv = .int .i64 (j : Nat) ∧ j ≤ 2 ∧ Tq w wr g ((2 - j) * 6) ∧ Gr g W6 wr) (fun iv _ => 2 - (intOf iv).toNat)
    case atStart => exact ⟨0, rfl, Nat.zero_le _, HQ6.out, Gr.refl _ _⟩
    case round =>
      obtain ⟨j, rfl, hj, hq, hg⟩ := hrel
      rename World => wr
      have HG := Lib.hid hg
      by_cases hlt : j < 2
      · obtain ⟨x1, x3, xs, hX, hXc, hXg, hXl⟩ := HCX.out j hlt
        have d0 := cell_gr hg hXc HGS.out
        have j1 : (j : Int) < 2 := by omega
        have hTr : Tw wr (.slice x1 xs.length x3) xs := hX.far hg hXg
        obtain ⟨xn, hxn⟩ : ∃ xn, xn = xs.length := ⟨_, rfl⟩
        rw [← hxn] at hTr d0 hXg hXl
        have HXN := Lib.hid hxn
        obtain ⟨w7, hw7⟩ : ∃ W, W = wr.alloc (.cells #[.slice x1 xn x3] 25) := ⟨_, rfl⟩
        obtain ⟨gx, hgx⟩ : ∃ gx, gx = wr.heap.size := ⟨_, rfl⟩
        have hk7 : Kp wr w7 := by rw [hw7]; exact kp_alloc _ _
        have HBX : Hid (Blk w7 gx 25 #[.slice x1 xn x3]) := Lib.hid (by rw [hw7, hgx]; exact Blk.new _ _ _)
        have hgl : g < wr.heap.size := hq.lt
        have HGX : Hid (gx ≠ g) := Lib.hid (by omega)
        have HT7 := Lib.hid (hTr.keep hk7)
        have HQ7 : Hid (Tq w w7 g ((2 - j) * 6)) := Lib.hid (hq.keep hk7)
        have HK7 := Lib.hid hk7; have HW7 := Lib.hid hw7; have HGE := Lib.hid hgx; have HXG := Lib.hid hXg
        have HXL := Lib.hid hXl
        have i9 : (xn : Int) ≤ 10000000000000 := by omega
        obtain ⟨EX, hEX⟩ : ∃ E, E = err xs := ⟨_, rfl⟩
        have HCK : Hid (∀ W', Kp w7 W' → Calls Try.prog 9 #[.agg #[.slice x1 xn x3]] W' fun e w' => e = .returned (.int .i64 (EX : Nat)) ∧ Kp W' w') := Lib.hid (fun W' hk => by rw [hEX]; exact check_any (HT7.out.keep hk))
        have HRK : Hid (∀ W', Kp w7 W' → Calls Try.prog 10 #[.agg #[.slice x1 xn x3]] W' fun e w' => e = .returned (.int .i64 (EX : Nat)) ∧ Kp W' w') := Lib.hid (fun W' hk => by rw [hEX]; exact rCheckT_any (HT7.out.keep hk))
        have c0 := HBX.out.cell 0 rfl
        have HJ := Lib.hid hj; have HJ1 := Lib.hid hlt
        clear hX hXc hXg hXl hTr hxn hw7 hgx hk7 hgl hq hg hlt hj hEX
        go_wp2_with fail
        rw [← HW7.out, ← HGE.out]
        clear d0
        go_region_held3 (fun w' => w'.cell? ⟨gx, 0, none⟩ = some (.slice x1 xn x3) ∧ Kp w7 w')
          (first
            | exact ⟨(HBX.out.keep (by first | assumption | exact Kp.refl _ | exact Kp.drewN _ 1 | exact Kp.trans (by assumption) (Kp.drewN _ 1))).cell 0 rfl, (by first | assumption | exact Kp.refl _ | exact Kp.drewN _ 1 | exact Kp.trans (by assumption) (Kp.drewN _ 1))⟩
            | (go_split_ands; exact ⟨(HBX.out.keep (by first | assumption | exact Kp.refl _ | exact Kp.drewN _ 1 | exact Kp.trans (by assumption) (Kp.drewN _ 1))).cell 0 rfl, (by first | assumption | exact Kp.refl _ | exact Kp.drewN _ 1 | exact Kp.trans (by assumption) (Kp.drewN _ 1))⟩)
            | fail "no keep")
          (first
            | (go_at_call 9; refine (HCK.out _ (Kp.drewN _ 1)).mono ?_; rintro e w8 ⟨rfl, hk8⟩; have k8 : Kp w7 w8 := Kp.trans (Kp.drewN w7 1) hk8)
            | (go_at_call 10; refine (HRK.out _ k8).mono ?_; rintro e w9 ⟨rfl, hk9⟩; have k9 : Kp w7 w9 := Kp.trans k8 hk9)
            | fail "no arm")
        have HK9 := Lib.hid k9
        clear c0 k8 hk8 k9 hk9
        obtain ⟨W10, hW10⟩ : ∃ W, W = w9.alloc (.cells #[.string ⟨#[97]⟩, .string ⟨#[]⟩, .string ⟨#[97, 98]⟩, .string S] 9) := ⟨_, rfl⟩
        have HK10 : Hid (Kp w7 W10) := Lib.hid (HK9.out.trans (by rw [hW10]; exact kp_alloc _ _))
        obtain ⟨gU, hgU⟩ : ∃ gU, gU = w9.heap.size := ⟨_, rfl⟩
        have HTX : Hid (∀ k, k < 4 → ∃ y, TxOk y ∧ W10.cell? ⟨gU, k, none⟩ = some (.string (st y))) := Lib.hid (by
          have hb : Blk W10 gU 9 #[.string ⟨#[97]⟩, .string ⟨#[]⟩, .string ⟨#[97, 98]⟩, .string S] := by rw [hW10, hgU]; exact Blk.new _ _ _
          intro k hk
          rcases k with _ | _ | _ | _ | k
          · exact ⟨[97], ⟨Lt.one (by decide), by decide⟩, hb.cell 0 rfl⟩
          · exact ⟨[], ⟨Lt.nil, by decide⟩, hb.cell 1 rfl⟩
          · exact ⟨[97, 98], ⟨Lt.cons (by decide) (Lt.one (by decide)), by decide⟩, hb.cell 2 rfl⟩
          · exact ⟨s, HSO.out, by rw [← HSE.out]; exact hb.cell 3 rfl⟩
          · omega)
        have HW10 := Lib.hid hW10; have HGU := Lib.hid hgU
        clear hW10 hgU
        go_wp2_with fail
        rw [← HW10.out, ← HGU.out]
        go_loopw [72] (fun iv wy => ∃ k : Nat, iv = .int .i64 (k : Nat) ∧ k ≤ 4 ∧ Kp W10 wy) (fun iv _ => 4 - (intOf iv).toNat)
        case atStart => exact ⟨0, rfl, Nat.zero_le _, Kp.refl _⟩
        case round =>
          obtain ⟨k, rfl, hk4, hky⟩ := hrel
          rename World => wy
          by_cases hk : k < 4
          · obtain ⟨y, hyo, hyc⟩ := HTX.out k hk
            have d0 := cell_kept hyc hky
            have HKY := Lib.hid (HK10.out.trans hky)
            have HK1 := Lib.hid hky
            have j2 : (k : Int) < 4 := by omega
            have c0 := (HBX.out.keep HKY.out).cell 0 rfl
            obtain ⟨Y, hY⟩ : ∃ Y, Y = st y := ⟨_, rfl⟩
            obtain ⟨N, hN⟩ : ∃ N, N = fdN y xs := ⟨_, rfl⟩
            obtain ⟨B, hB⟩ : ∃ B, B = fdB y xs := ⟨_, rfl⟩
            obtain ⟨PE, hPE⟩ : ∃ E, E = ptE y xs := ⟨_, rfl⟩
            obtain ⟨PN, hPN⟩ : ∃ E, E = ptN y xs := ⟨_, rfl⟩
            obtain ⟨pl, hpl⟩ : ∃ l, l = (ptL y xs).length := ⟨_, rfl⟩
            have HF : Hid (∀ W', Kp w7 W' → Calls Try.prog 11 #[.agg #[.slice x1 xn x3], .string Y] W' fun e w' => e = .returned (.tuple #[.int .i64 (N : Nat), .bool B]) ∧ Kp W' w') := Lib.hid (fun W' hk => by rw [hY, hN, hB]; exact find_any (HT7.out.keep hk) hyo)
            have HRF : Hid (∀ W', Kp w7 W' → Calls Try.prog 12 #[.agg #[.slice x1 xn x3], .string Y] W' fun e w' => e = .returned (.tuple #[.int .i64 (N : Nat), .bool B]) ∧ Kp W' w') := Lib.hid (fun W' hk => by rw [hY, hN, hB]; exact rFindT_any (HT7.out.keep hk) (by have := HXL.out; have := HXN.out; omega) hyo.1)
            have HP : Hid (∀ W', Kp w7 W' → Calls Try.prog 13 #[.agg #[.slice x1 xn x3], .string Y] W' fun e w' => ∃ p1 p3, e = .returned (.tuple #[.agg #[.slice p1 pl p3], .int .i64 (PN : Nat), .int .i64 (PE : Nat)]) ∧ Tw w' (.slice p1 pl p3) (ptL y xs) ∧ Kp W' w') := Lib.hid (fun W' hk => by
              rw [hY, hPE, hPN, hpl]
              refine (put13_any (HT7.out.keep hk) hyo).mono ?_
              rintro e w' ⟨u, rfl, h1, -, h2⟩
              obtain ⟨p1, p3, rfl, -⟩ := h1.open3
              exact ⟨p1, p3, rfl, h1, h2⟩)
            have HRP : Hid (∀ W', Kp w7 W' → Calls Try.prog 14 #[.agg #[.slice x1 xn x3], .string Y] W' fun e w' => ∃ p1 p3, e = .returned (.tuple #[.agg #[.slice p1 pl p3], .int .i64 (PN : Nat), .int .i64 (PE : Nat)]) ∧ Tw w' (.slice p1 pl p3) (ptL y xs) ∧ Kp W' w') := Lib.hid (fun W' hk => by
              rw [hY, hPE, hPN, hpl]
              refine (rPutT_all (HT7.out.keep hk) hyo).mono ?_
              rintro e w' ⟨u, rfl, h1, -, h2⟩
              obtain ⟨p1, p3, rfl, -⟩ := h1.open3
              exact ⟨p1, p3, rfl, h1, h2⟩)
            have HFEW : Hid ((ptL y xs).length ≤ 1000000) := Lib.hid (ptL_few y xs)
            rw [← hY] at d0
            clear hyo hyc hky hk hk4 hY hN hB hPE hPN hpl
            go_wp2_with fail
            refine (HF.out _ HKY.out).mono ?_
            rintro e v1 ⟨rfl, hv1⟩
            have L1 := Lib.hid hv1
            have c1 := (HBX.out.keep (HKY.out.trans hv1)).cell 0 rfl
            clear hv1 c0 d0
            go_wp2_with fail
            refine (HRF.out _ (HKY.out.trans L1.out)).mono ?_
            rintro e v2 ⟨rfl, hv2⟩
            have L2 := Lib.hid (L1.out.trans hv2)
            have c2 := (HBX.out.keep (HKY.out.trans L2.out)).cell 0 rfl
            clear hv2 c1
            go_wp2_with fail
            refine (HP.out _ (HKY.out.trans L2.out)).mono ?_
            rintro e v3 ⟨p1, p3, rfl, hp, hv3⟩
            obtain ⟨u3, hu3⟩ : ∃ W, W = v3.alloc (.cells #[.slice p1 pl p3] 25) := ⟨_, rfl⟩
            have hku3 : Kp v3 u3 := by rw [hu3]; exact kp_alloc _ _
            have L3 := Lib.hid ((L2.out.trans hv3).trans hku3)
            have c3 := (HBX.out.keep (HKY.out.trans L3.out)).cell 0 rfl
            rw [hu3] at c3
            have HP3 := Lib.hid (hp.keep hku3)
            have HB3 : Hid (Blk u3 v3.heap.size 25 #[.slice p1 pl p3]) := Lib.hid (by rw [hu3]; exact Blk.new _ _ _)
            have HU3 := Lib.hid hu3
            clear hv3 hp hku3 hu3 c2
            go_wp2_with fail
            rw [← HU3.out]
            refine (HRP.out _ (HKY.out.trans L3.out)).mono ?_
            rintro e v4 ⟨r1, r3, rfl, hr, hv4⟩
            obtain ⟨u4, hu4⟩ : ∃ W, W = v4.alloc (.cells #[.slice r1 pl r3] 25) := ⟨_, rfl⟩
            have hku4 : Kp v4 u4 := by rw [hu4]; exact kp_alloc _ _
            have L4 := Lib.hid ((L3.out.trans hv4).trans hku4)
            have c4 := (HB3.out.keep (hv4.trans hku4)).cell 0 rfl
            rw [hu4] at c4
            have c4' := (Blk.new v4 25 #[.slice r1 pl r3]).cell 0 rfl
            have HSM := Lib.hid (rSameT_any (HP3.out.keep (hv4.trans hku4)) (hr.keep hku4) HFEW.out)
            rw [decide_eq_true rfl] at HSM
            have HU4 := Lib.hid hu4
            clear hv4 hr hku4 hu4 c3
            go_wp2_with fail
            rw [← HU4.out]
            refine HSM.out.mono ?_
            rintro e v5 ⟨rfl, hv5⟩
            have L5 := Lib.hid (HK1.out.trans (L4.out.trans hv5))
            clear hv5 c4 c4'
            go_wp2_with fail
            go_roundw
            case rel => exact ⟨k + 1, by go_num, by omega, L5.out⟩
            case measure => simp [intOf]; omega
          · have j3 : (4 : Int) ≤ (k : Int) := by omega
            have HKY := Lib.hid (HK10.out.trans hky)
            have c0 := (HBX.out.keep HKY.out).cell 0 rfl
            clear hk hk4
            obtain ⟨W20, hW20⟩ : ∃ W, W = wy.alloc (.cells #[.int .i64 0, .int .i64 1, .int .i64 (xn : Nat), .int .i64 (-1), .int .i64 nn] 3) := ⟨_, rfl⟩
            have HK20 : Hid (Kp w7 W20) := Lib.hid (HKY.out.trans (by rw [hW20]; exact kp_alloc _ _))
            obtain ⟨gI, hgI⟩ : ∃ gI, gI = wy.heap.size := ⟨_, rfl⟩
            have HIX : Hid (∀ k, k < 5 → ∃ m : Int, W20.cell? ⟨gI, k, none⟩ = some (.int .i64 m)) := Lib.hid (by
              have hb : Blk W20 gI 3 #[.int .i64 0, .int .i64 1, .int .i64 (xn : Nat), .int .i64 (-1), .int .i64 nn] := by rw [hW20, hgI]; exact Blk.new _ _ _
              intro k hk
              rcases k with _ | _ | _ | _ | _ | k
              · exact ⟨_, hb.cell 0 rfl⟩
              · exact ⟨_, hb.cell 1 rfl⟩
              · exact ⟨_, hb.cell 2 rfl⟩
              · exact ⟨_, hb.cell 3 rfl⟩
              · exact ⟨_, hb.cell 4 rfl⟩
              · omega)
            have HW20 := Lib.hid hW20; have HGI := Lib.hid hgI
            clear hW20 hgI hky
            go_wp2_with fail
            rw [← HW20.out, ← HGI.out]
            go_loopw [133] (fun iv wz => ∃ k : Nat, iv = .int .i64 (k : Nat) ∧ k ≤ 5 ∧ Kp W20 wz) (fun iv _ => 5 - (intOf iv).toNat)
            case atStart => exact ⟨0, rfl, Nat.zero_le _, Kp.refl _⟩
            case round =>
              obtain ⟨k, rfl, hk5, hkz⟩ := hrel
              rename World => wz
              by_cases hk : k < 5
              · obtain ⟨m, hmc⟩ := HIX.out k hk
                have d0 := cell_kept hmc hkz
                have HKZ := Lib.hid (HK20.out.trans hkz)
                have HK1 := Lib.hid hkz
                have j2 : (k : Int) < 5 := by omega
                have c0 := (HBX.out.keep HKZ.out).cell 0 rfl
                obtain ⟨GT, hGT⟩ : ∃ S, S = st (gtT m xs) := ⟨_, rfl⟩
                obtain ⟨GE, hGE⟩ : ∃ E, E = gtE m xs := ⟨_, rfl⟩
                have HF : Hid (∀ W', Kp w7 W' → Calls Try.prog 16 #[.agg #[.slice x1 xn x3], .int .i64 m] W' fun e w' => e = .returned (.tuple #[.string GT, .int .i64 (GE : Nat)]) ∧ Kp W' w') := Lib.hid (fun W' hk => by rw [hGT, hGE]; exact get_any (HT7.out.keep hk) m)
                have HRF : Hid (∀ W', Kp w7 W' → Calls Try.prog 17 #[.agg #[.slice x1 xn x3], .int .i64 m] W' fun e w' => e = .returned (.tuple #[.string GT, .int .i64 (GE : Nat)]) ∧ Kp W' w') := Lib.hid (fun W' hk => by rw [hGT, hGE]; exact rGetT_any (HT7.out.keep hk) m)
                clear hmc hkz hk hk5 hGT hGE
                go_wp2_with fail
                refine (HF.out _ HKZ.out).mono ?_
                rintro e v1 ⟨rfl, hv1⟩
                have L1 := Lib.hid hv1
                have c1 := (HBX.out.keep (HKZ.out.trans hv1)).cell 0 rfl
                clear hv1 c0 d0
                go_wp2_with fail
                refine (HRF.out _ (HKZ.out.trans L1.out)).mono ?_
                rintro e v2 ⟨rfl, hv2⟩
                have L2 := Lib.hid (HK1.out.trans (L1.out.trans hv2))
                clear hv2 c1
                go_wp2_with fail
                go_roundw
                case rel => exact ⟨k + 1, by go_num, by omega, L2.out⟩
                case measure => simp [intOf]; omega
              · have j4 : (5 : Int) ≤ (k : Int) := by omega
                have HKZ := Lib.hid (HK20.out.trans hkz)
                have HNX := Lib.hid (Next_q (n := (2 - j) * 6 - 1) ((HQ7.out.keep HKZ.out).less (by have := HJ1.out; omega)) 6 (by omega) (by omega))
                clear hk hk5 hkz
                go_wp2_with fail
                refine HNX.out.mono ?_
                rintro e w30 ⟨⟨r, hr, rfl⟩, hq30, hg30⟩
                have HQ30 := Lib.hid hq30; have HG30 := Lib.hid hg30; have HR := Lib.hid hr
                clear hq30 hg30
                go_wp2_with fail
                go_loopw [32, 33] (fun uv iv wy => ∃ (us : List Int) (k : Nat), iv = .int .i64 (k : Nat) ∧ k + us.length ≤ 5 ∧ OwJ w wy uv us ∧ (∀ c, uv.ownBlock = some c → w30.heap.size ≤ c) ∧ Tq w wy g (k + (1 - j) * 6) ∧ Gr g w30 wy) (fun _ iv _ => (intOf iv).toNat)
                case atStart => exact ⟨[], r, by go_num, by simp; omega, (OwJ.start w30).base HQ30.out.base, fun c hc => by simp [Value.ownBlock] at hc, HQ30.out.less (by have := HJ1.out; omega), Gr.refl _ _⟩
                case round =>
                  obtain ⟨us, k, rfl, hku, hoj, hown, hqy, hgy⟩ := hrel
                  rename World => wy
                  have HG1 : Hid (Gr g w7 wy) := Lib.hid (((HKZ.out).gr g).trans (HG30.out.trans hgy))
                  have c0 := cell_gr HG1.out (HBX.out.cell 0 rfl) HGX.out
                  obtain ⟨⟨n1, n2, n3, rfl⟩, -⟩ := row_frc hoj.owns
                  by_cases hk : 0 < k
                  · have j2 : (0 : Int) < (k : Int) := by omega
                    have j5 : (k : Int) ≤ 5 := by omega
                    have hqy' : Tq w wy g ((k - 1 + (1 - j) * 6) + 1) := hqy.less (by omega)
                    have hNX := Next_big hqy' (xn + 1) (by omega) (by have := HXL.out; omega)
                    rw [show ((xn + 1 : Nat) : Int) = (xn : Int) + 1 by omega] at hNX
                    have HNX := Lib.hid hNX
                    have HOJ := Lib.hid hoj; have HOWN := Lib.hid hown; have HGY := Lib.hid hgy; have HKU := Lib.hid hku
                    have HGG : Hid (w.heap.size ≤ g ∧ g < w30.heap.size) := Lib.hid ⟨HQ30.out.ge, HQ30.out.lt⟩
                    have HKP := Lib.hid hk
                    clear hNX hqy hqy' hoj hown hgy hk hku
                    go_wp2_with fail
                    refine HNX.out.mono ?_
                    rintro e v1 ⟨⟨r1, hr1, rfl⟩, hq1, hg1⟩
                    have HGA : Hid (Gr g w30 v1) := Lib.hid (HGY.out.trans hg1)
                    have HO1 : Hid (OwJ w (v1.alloc (.cells #[.int .i64 (r1 : Int)] 3)) (.slice n1 n2 n3) us) := Lib.hid ((HOJ.out.by hg1 (fun r hr => by injection hr with hr; rw [← hr]; exact HGG.out.1) (fun c hc e => by injection e with e; have := HOWN.out c hc; have := HGG.out.2; omega)).keep (kp_alloc _ _))
                    have HNB : Hid (Blk (v1.alloc (.cells #[.int .i64 (r1 : Int)] 3)) v1.heap.size 3 #[.int .i64 (r1 : Int)]) := Lib.hid (Blk.new _ _ _)
                    have HQ1 := Lib.hid (hq1.keep (kp_alloc v1 (.cells #[.int .i64 (r1 : Int)] 3)))
                    have HR1 := Lib.hid hr1
                    clear hq1 hg1 hr1 c0
                    go_wp2_with (at_builtin; refine wpList_it (w := w) rfl (.tmp 164) (.tmp 171) rfl _ rfl HO1.out (by have := HKU.out; omega) (r1 : Int) (by have := HR1.out; have := HXL.out; unfold IxOk; omega) v1.heap.size rfl HNB.out ?_)
                    intro v8 w8 ho8 hg8 ha8
                    have HGB : Hid (Gr g w30 w8) := Lib.hid (Gr.by (HGA.out.trans ((kp_alloc _ _).gr g)) hg8 (fun r hr => HOWN.out r hr))
                    have hown8 : ∀ c, v8.ownBlock = some c → w30.heap.size ≤ c := fun c hc => by
                      rcases ha8 with e | e
                      · exact HOWN.out c (e ▸ hc)
                      · rw [e] at hc; injection hc with hc
                        have h1 := HGA.out.size
                        omega
                    have HQ8 := Lib.hid (HQ1.out.by hg8 (fun r hr => by have h1 := HOWN.out r hr; have h2 := HGG.out; omega))
                    have HO8 := Lib.hid ho8; have HOW8 := Lib.hid hown8
                    clear ho8 hg8 ha8 hown8
                    go_wp2_with fail
                    go_roundw
                    case rel => exact ⟨us ++ [(r1 : Int)], k - 1, by have := HKP.out; go_num, by have := HKU.out; have := HKP.out; simp; omega, HO8.out, HOW8.out, HQ8.out, HGB.out⟩
                    case measure => have := HKP.out; simp [intOf]; try omega
                  · obtain rfl : k = 0 := by omega
                    have hTy : Tw wy (.slice x1 xn x3) xs := (HT7.out.keep HKZ.out).far (HG30.out.trans hgy) HXG.out
                    have HTY := Lib.hid hTy
                    have HJY := Lib.hid hoj.jw
                    have HUL : Hid (us.length ≤ 1000000) := Lib.hid (by omega)
                    obtain ⟨KE, hKE⟩ : ∃ E, E = kpE xs us := ⟨_, rfl⟩
                    obtain ⟨kl, hkl⟩ : ∃ l, l = (kpL xs us).length := ⟨_, rfl⟩
                    obtain ⟨kn, hkn⟩ : ∃ l, l = (kpN xs us).length := ⟨_, rfl⟩
                    have HP : Hid (∀ W', Kp wy W' → Calls Try.prog 19 #[.agg #[.slice x1 xn x3], .slice n1 n2 n3] W' fun e w' => ∃ p1 p3 m1 m3, e = .returned (.tuple #[.agg #[.slice p1 kl p3], .slice m1 kn m3, .int .i64 (KE : Nat)]) ∧ Tw w' (.slice p1 kl p3) (kpL xs us) ∧ Jw w' (.slice m1 kn m3) (kpN xs us) ∧ Kp W' w') := Lib.hid (fun W' hk => by
                      rw [hKE, hkl, hkn]
                      refine (keep_any (HTY.out.keep hk) (HJY.out.keep hk) HUL.out).mono ?_
                      rintro e w' ⟨u, nv, rfl, h1, h2, -, -, h3⟩
                      obtain ⟨p1, p3, rfl, -⟩ := h1.open3
                      obtain ⟨m1, m3, rfl, -⟩ := h2.open3
                      exact ⟨p1, p3, m1, m3, rfl, h1, h2, h3⟩)
                    have HRP : Hid (∀ W', Kp wy W' → Calls Try.prog 20 #[.agg #[.slice x1 xn x3], .slice n1 n2 n3] W' fun e w' => ∃ p1 p3 m1 m3, e = .returned (.tuple #[.agg #[.slice p1 kl p3], .slice m1 kn m3, .int .i64 (KE : Nat)]) ∧ Tw w' (.slice p1 kl p3) (kpL xs us) ∧ Jw w' (.slice m1 kn m3) (kpN xs us) ∧ Kp W' w') := Lib.hid (fun W' hk => by
                      rw [hKE, hkl, hkn]
                      refine (rKeepT_any (HTY.out.keep hk) (HJY.out.keep hk) HUL.out).mono ?_
                      rintro e w' ⟨u, nv, rfl, h1, h2, -, -, h3⟩
                      obtain ⟨p1, p3, rfl, -⟩ := h1.open3
                      obtain ⟨m1, m3, rfl, -⟩ := h2.open3
                      exact ⟨p1, p3, m1, m3, rfl, h1, h2, h3⟩)
                    have HFEW := Lib.hid (kp_few xs us)
                    have HBY : Hid (∀ W', Kp wy W' → W'.cell? ⟨gx, 0, none⟩ = some (.slice x1 xn x3)) := Lib.hid (fun W' hk => cell_kept c0 hk)
                    have HQY := Lib.hid hqy; have HGY := Lib.hid (HG1.out)
                    clear hTy hoj hown hqy hgy hk hku hKE hkl hkn
                    go_wp2_with fail
                    refine (HP.out _ (Kp.refl _)).mono ?_
                    rintro e v3 ⟨p1, p3, m1, m3, rfl, hp, hm, hv3⟩
                    obtain ⟨u3, hu3⟩ : ∃ W, W = v3.alloc (.cells #[.slice p1 kl p3] 25) := ⟨_, rfl⟩
                    have hku3 : Kp v3 u3 := by rw [hu3]; exact kp_alloc _ _
                    have L3 := Lib.hid (hv3.trans hku3)
                    have c3 := HBY.out _ L3.out
                    rw [hu3] at c3
                    have HP3 := Lib.hid (hp.keep hku3); have HM3 := Lib.hid (hm.keep hku3)
                    have HB3 : Hid (Blk u3 v3.heap.size 25 #[.slice p1 kl p3]) := Lib.hid (by rw [hu3]; exact Blk.new _ _ _)
                    have HU3 := Lib.hid hu3
                    clear hv3 hp hm hku3 hu3 c0
                    go_wp2_with fail
                    rw [← HU3.out]
                    refine (HRP.out _ L3.out).mono ?_
                    rintro e v4 ⟨r1, r3, o1, o3, rfl, hr, ho, hv4⟩
                    obtain ⟨u4, hu4⟩ : ∃ W, W = v4.alloc (.cells #[.slice r1 kl r3] 25) := ⟨_, rfl⟩
                    have hku4 : Kp v4 u4 := by rw [hu4]; exact kp_alloc _ _
                    have L4 := Lib.hid ((L3.out.trans hv4).trans hku4)
                    have c4 := (HB3.out.keep (hv4.trans hku4)).cell 0 rfl
                    rw [hu4] at c4
                    have c4' := (Blk.new v4 25 #[.slice r1 kl r3]).cell 0 rfl
                    have HSM := Lib.hid (rSameT_any (HP3.out.keep (hv4.trans hku4)) (hr.keep hku4) HFEW.out.1)
                    rw [decide_eq_true rfl] at HSM
                    have HSJ : Hid (∀ W', Kp u4 W' → Calls Try.prog 21 #[.slice m1 kn m3, .slice o1 kn o3] W' fun e w' => e = .returned (.bool true) ∧ Kp W' w') := Lib.hid (fun W' hk => by
                      have h := SameInts_any ((HM3.out.keep (hv4.trans hku4)).keep hk) ((ho.keep hku4).keep hk) HFEW.out.2
                      rwa [decide_eq_true rfl] at h)
                    have HU4 := Lib.hid hu4
                    clear hv4 hr ho hku4 hu4 c3
                    go_wp2_with fail
                    rw [← HU4.out]
                    refine HSM.out.mono ?_
                    rintro e v5 ⟨rfl, hv5⟩
                    have L5 := Lib.hid hv5
                    clear hv5 c4 c4'
                    go_wp2_with fail
                    refine (HSJ.out _ L5.out).mono ?_
                    rintro e v6 ⟨rfl, hv6⟩
                    have L6 := Lib.hid (L4.out.trans (L5.out.trans hv6))
                    clear hv6
                    go_wp2_with fail
                    go_roundw
                    case rel => exact ⟨j + 1, by go_num, by have := HJ1.out; omega, (HQY.out.keep L6.out).less (by omega), (HG.out.trans (HK7.out.gr g)).trans (HGY.out.trans (L6.out.gr g))⟩
                    case measure => simp [intOf]; have := HJ1.out; omega
      · obtain rfl : j = 2 := by omega
        have c0 := cell_gr hg (HCA.out) HGA6.out
        have c1 := cell_gr hg (HCB.out) HGB6.out
        have HTA := Lib.hid (TA6.out.far hg HAG.out)
        have HTB := Lib.hid (TB6.out.far hg HBG.out)
        obtain ⟨KE, hKE⟩ : ∃ E, E = mgE a bs := ⟨_, rfl⟩
        obtain ⟨kl, hkl⟩ : ∃ l, l = (mgL a bs).length := ⟨_, rfl⟩
        obtain ⟨kn, hkn⟩ : ∃ l, l = (mgN a bs).length := ⟨_, rfl⟩
        have HP : Hid (∀ W', Kp wr W' → Calls Try.prog 22 #[.agg #[.slice a1 an a3], .agg #[.slice b1 bn b3]] W' fun e w' => ∃ p1 p3 m1 m3, e = .returned (.tuple #[.agg #[.slice p1 kl p3], .slice m1 kn m3, .int .i64 (KE : Nat)]) ∧ Tw w' (.slice p1 kl p3) (mgL a bs) ∧ Jw w' (.slice m1 kn m3) (mgN a bs) ∧ Kp W' w') := Lib.hid (fun W' hk => by
          rw [hKE, hkl, hkn]
          refine (merge_any (HTA.out.keep hk) (HTB.out.keep hk)).mono ?_
          rintro e w' ⟨u, nv, rfl, h1, h2, -, -, h3⟩
          obtain ⟨p1, p3, rfl, -⟩ := h1.open3
          obtain ⟨m1, m3, rfl, -⟩ := h2.open3
          exact ⟨p1, p3, m1, m3, rfl, h1, h2, h3⟩)
        have HRP : Hid (∀ W', Kp wr W' → Calls Try.prog 23 #[.agg #[.slice a1 an a3], .agg #[.slice b1 bn b3]] W' fun e w' => ∃ p1 p3 m1 m3, e = .returned (.tuple #[.agg #[.slice p1 kl p3], .slice m1 kn m3, .int .i64 (KE : Nat)]) ∧ Tw w' (.slice p1 kl p3) (mgL a bs) ∧ Jw w' (.slice m1 kn m3) (mgN a bs) ∧ Kp W' w') := Lib.hid (fun W' hk => by
          rw [hKE, hkl, hkn]
          refine (rMergeT_any (HTA.out.keep hk) (HTB.out.keep hk)).mono ?_
          rintro e w' ⟨u, nv, rfl, h1, h2, -, -, h3⟩
          obtain ⟨p1, p3, rfl, -⟩ := h1.open3
          obtain ⟨m1, m3, rfl, -⟩ := h2.open3
          exact ⟨p1, p3, m1, m3, rfl, h1, h2, h3⟩)
        have HFEW := Lib.hid (mg_few a bs)
        have HC0 : Hid (∀ W', Kp wr W' → W'.cell? ⟨gA, 0, none⟩ = some (.slice a1 an a3) ∧ W'.cell? ⟨gA + 1, 0, none⟩ = some (.slice b1 bn b3)) := Lib.hid (fun W' hk => ⟨cell_kept c0 hk, cell_kept c1 hk⟩)
        have HQY := Lib.hid hq.base
        have CA := Lib.hid (fun W => awake13_any putC getC W)
        clear hq hg hlt hj hKE hkl hkn
        go_wp2_with fail
        refine (HP.out _ (Kp.refl _)).mono ?_
        rintro e v3 ⟨p1, p3, m1, m3, rfl, hp, hm, hv3⟩
        obtain ⟨u3, hu3⟩ : ∃ W, W = v3.alloc (.cells #[.slice p1 kl p3] 25) := ⟨_, rfl⟩
        have hku3 : Kp v3 u3 := by rw [hu3]; exact kp_alloc _ _
        have L3 := Lib.hid (hv3.trans hku3)
        have c3 := (HC0.out _ L3.out).1
        have c3' := (HC0.out _ L3.out).2
        rw [hu3] at c3 c3'
        have HP3 := Lib.hid (hp.keep hku3); have HM3 := Lib.hid (hm.keep hku3)
        have HB3 : Hid (Blk u3 v3.heap.size 25 #[.slice p1 kl p3]) := Lib.hid (by rw [hu3]; exact Blk.new _ _ _)
        have HU3 := Lib.hid hu3
        clear hv3 hp hm hku3 hu3 c0 c1
        go_wp2_with fail
        rw [← HU3.out]
        refine (HRP.out _ L3.out).mono ?_
        rintro e v4 ⟨r1, r3, o1, o3, rfl, hr, ho, hv4⟩
        obtain ⟨u4, hu4⟩ : ∃ W, W = v4.alloc (.cells #[.slice r1 kl r3] 25) := ⟨_, rfl⟩
        have hku4 : Kp v4 u4 := by rw [hu4]; exact kp_alloc _ _
        have L4 := Lib.hid ((L3.out.trans hv4).trans hku4)
        have c4 := (HB3.out.keep (hv4.trans hku4)).cell 0 rfl
        rw [hu4] at c4
        have c4' := (Blk.new v4 25 #[.slice r1 kl r3]).cell 0 rfl
        have HSM := Lib.hid (rSameT_any (HP3.out.keep (hv4.trans hku4)) (hr.keep hku4) HFEW.out.1)
        rw [decide_eq_true rfl] at HSM
        have HSJ : Hid (∀ W', Kp u4 W' → Calls Try.prog 21 #[.slice m1 kn m3, .slice o1 kn o3] W' fun e w' => e = .returned (.bool true) ∧ Kp W' w') := Lib.hid (fun W' hk => by
          have h := SameInts_any ((HM3.out.keep (hv4.trans hku4)).keep hk) ((ho.keep hku4).keep hk) HFEW.out.2
          rwa [decide_eq_true rfl] at h)
        have HU4 := Lib.hid hu4
        clear hv4 hr ho hku4 hu4 c3 c3'
        go_wp2_with fail
        rw [← HU4.out]
        refine HSM.out.mono ?_
        rintro e v5 ⟨rfl, hv5⟩
        have L5 := Lib.hid hv5
        clear hv5 c4 c4'
        go_wp2_with fail
        refine (HSJ.out _ L5.out).mono ?_
        rintro e v6 ⟨rfl, hv6⟩
        have L6 := Lib.hid (L4.out.trans (L5.out.trans hv6))
        clear hv6
        go_wp2_with fail
        refine (CA.out _).mono ?_
        rintro e v7 ⟨rfl, hv7⟩
        have L7 := Lib.hid (HQY.out.trans (L6.out.trans hv7))
        clear hv7
        go_wp2_with fail
        go_ret
        exact ⟨rfl, L7.out⟩
  | true =>
    obtain ⟨b1, rfl⟩ : ∃ b1, b1 = q1 := ⟨_, rfl⟩
    obtain ⟨b3, rfl⟩ : ∃ b3, b3 = q3 := ⟨_, rfl⟩
    obtain ⟨bn, rfl⟩ : ∃ bn, bn = rn := ⟨_, rfl⟩
    obtain ⟨bs, rfl⟩ : ∃ bs, bs = rs := ⟨_, rfl⟩
    have hR := HRR.out
    have hbn : bn = bs.length := HRN.out
    have hbl : bs.length ≤ 10000000000000 := by rw [← hbn]; exact HRL.out
    have hbg : Far g (.slice b1 bn b3) bs := by
      rcases hR.own_lt with h | h
      · exact .inl h
      · exact .inr fun c hc => by have h1 := h c hc; have := HGAA.out; omega
    clear HBG
    have c4 := hBR4.cell 0 rfl; have d4 := hBB4.cell 0 rfl; have f4 := hBB4.free 0
    obtain ⟨W5, hW5⟩ : ∃ W5, W5 = w4.setCell ⟨gA + 1, 0, none⟩ (.slice b1 bn b3) := ⟨_, rfl⟩
    have ho : Only (gA + 1) w4 W5 := by rw [hW5]; exact (Only.refl (gA + 1) w4).set 0 _
    have hG5 : w.heap.size ≤ g ∧ g < W5.heap.size ∧ gA < W5.heap.size ∧ g < gA := by rw [← ho.size]; exact hG4
    have hTA : Tw W5 (.slice a1 an a3) a := by
      rcases HAB2.out with h0 | h0
      · rw [h0] at hTA4 ⊢
        exact hTA4.empty_any
      · exact hTA4.by (Only.gr ho) (fun c hc e => by injection e with e; have := h0 c hc; omega)
    have hTB : Tw W5 (.slice b1 bn b3) bs := hR.keep (Only.kp hKW4 ho (by omega))
    have hBA := hBA4.other ho (by omega)
    have hBB : Blk W5 (gA + 1) 25 #[.slice b1 bn b3] := by rw [hW5]; exact hBB4.set 0 _
    have hQ5 : Tq w W5 g 12 := hq4.only ho (by omega) (by omega)
    have hag := HAG.out
    clear HAG
    have HG5 : Hid (w.heap.size ≤ g ∧ g < W5.heap.size ∧ gA < W5.heap.size ∧ g < gA) := Lib.hid hG5
    obtain ⟨W6, hW6⟩ : ∃ W, W = W5.alloc (.cells #[.slice a1 an a3, .slice b1 bn b3] 25) := ⟨_, rfl⟩
    obtain ⟨gS, hgS⟩ : ∃ gS, gS = W5.heap.size := ⟨_, rfl⟩
    have hk6 : Kp W5 W6 := by rw [hW6]; exact kp_alloc _ _
    have TA6 := Lib.hid (hTA.keep hk6); have TB6 := Lib.hid (hTB.keep hk6)
    have HAG := Lib.hid hag; have HBG := Lib.hid hbg
    have HQ6 : Hid (Tq w W6 g 12) := Lib.hid (hQ5.keep hk6)
    have HCA : Hid (W6.cell? ⟨gA, 0, none⟩ = some (.slice a1 an a3)) := Lib.hid ((hBA.keep hk6).cell 0 rfl)
    have HCB : Hid (W6.cell? ⟨gA + 1, 0, none⟩ = some (.slice b1 bn b3)) := Lib.hid ((hBB.keep hk6).cell 0 rfl)
    have HGA6 : Hid (gA ≠ g) := Lib.hid (by have := HG5.out; omega)
    have HGB6 : Hid (gA + 1 ≠ g) := Lib.hid (by have := HG5.out; omega)
    have HGS : Hid (gS ≠ g) := Lib.hid (by have := HG5.out; omega)
    have HCX : Hid (∀ j, j < 2 → ∃ x1 x3 xs, Tw W6 (.slice x1 xs.length x3) xs ∧ W6.cell? ⟨gS, j, none⟩ = some (.slice x1 xs.length x3) ∧ Far g (.slice x1 xs.length x3) xs ∧ xs.length ≤ 10000000000000) := Lib.hid (by
      have hb : Blk W6 gS 25 #[.slice a1 an a3, .slice b1 bn b3] := by rw [hW6, hgS]; exact Blk.new _ _ _
      intro j hj
      rcases j with _ | _ | j
      · exact ⟨a1, a3, a, by rw [← HAN.out]; exact TA6.out, by rw [← HAN.out]; exact hb.cell 0 rfl, by rw [← HAN.out]; exact hag, by have := HAL.out; omega⟩
      · exact ⟨b1, b3, bs, by rw [← hbn]; exact TB6.out, by rw [← hbn]; exact hb.cell 1 rfl, by rw [← hbn]; exact hbg, hbl⟩
      · omega)
    have c10 := hBA.cell 0 rfl; have c11 := hBB.cell 0 rfl
    have hgS' : gS = w4.heap.size := by rw [hgS, hW5]; simp
    rw [hW5] at c10 c11
    rw [hW5] at hW6
    have HW6 := Lib.hid hW6; have HGSE := Lib.hid hgS'
    clear hW6 hgS hgS' hk6 hW5 hbn hbl hbg hag hTA hTB hBA hBB hQ5 hG5 hTA4 hTB4 hBA4 hBB4 hq4 hG4 hg4 hBR4 hKW4 hnn ho hR
    go_wp2_with fail
    rw [← HW6.out, ← HGSE.out]
    clear c10 c11 c4 d4 f4
    go_loopw [60] (fun iv wr => ∃ j : Nat, iv = .int .i64 (j : Nat) ∧ j ≤ 2 ∧ Tq w wr g ((2 - j) * 6) ∧ Gr g W6 wr) (fun iv _ => 2 - (intOf iv).toNat)
    case atStart => exact ⟨0, rfl, Nat.zero_le _, HQ6.out, Gr.refl _ _⟩
    case round =>
      obtain ⟨j, rfl, hj, hq, hg⟩ := hrel
      rename World => wr
      have HG := Lib.hid hg
      by_cases hlt : j < 2
      · obtain ⟨x1, x3, xs, hX, hXc, hXg, hXl⟩ := HCX.out j hlt
        have d0 := cell_gr hg hXc HGS.out
        have j1 : (j : Int) < 2 := by omega
        have hTr : Tw wr (.slice x1 xs.length x3) xs := hX.far hg hXg
        obtain ⟨xn, hxn⟩ : ∃ xn, xn = xs.length := ⟨_, rfl⟩
        rw [← hxn] at hTr d0 hXg hXl
        have HXN := Lib.hid hxn
        obtain ⟨w7, hw7⟩ : ∃ W, W = wr.alloc (.cells #[.slice x1 xn x3] 25) := ⟨_, rfl⟩
        obtain ⟨gx, hgx⟩ : ∃ gx, gx = wr.heap.size := ⟨_, rfl⟩
        have hk7 : Kp wr w7 := by rw [hw7]; exact kp_alloc _ _
        have HBX : Hid (Blk w7 gx 25 #[.slice x1 xn x3]) := Lib.hid (by rw [hw7, hgx]; exact Blk.new _ _ _)
        have hgl : g < wr.heap.size := hq.lt
        have HGX : Hid (gx ≠ g) := Lib.hid (by omega)
        have HT7 := Lib.hid (hTr.keep hk7)
        have HQ7 : Hid (Tq w w7 g ((2 - j) * 6)) := Lib.hid (hq.keep hk7)
        have HK7 := Lib.hid hk7; have HW7 := Lib.hid hw7; have HGE := Lib.hid hgx; have HXG := Lib.hid hXg
        have HXL := Lib.hid hXl
        have i9 : (xn : Int) ≤ 10000000000000 := by omega
        obtain ⟨EX, hEX⟩ : ∃ E, E = err xs := ⟨_, rfl⟩
        have HCK : Hid (∀ W', Kp w7 W' → Calls Try.prog 9 #[.agg #[.slice x1 xn x3]] W' fun e w' => e = .returned (.int .i64 (EX : Nat)) ∧ Kp W' w') := Lib.hid (fun W' hk => by rw [hEX]; exact check_any (HT7.out.keep hk))
        have HRK : Hid (∀ W', Kp w7 W' → Calls Try.prog 10 #[.agg #[.slice x1 xn x3]] W' fun e w' => e = .returned (.int .i64 (EX : Nat)) ∧ Kp W' w') := Lib.hid (fun W' hk => by rw [hEX]; exact rCheckT_any (HT7.out.keep hk))
        have c0 := HBX.out.cell 0 rfl
        have HJ := Lib.hid hj; have HJ1 := Lib.hid hlt
        clear hX hXc hXg hXl hTr hxn hw7 hgx hk7 hgl hq hg hlt hj hEX
        go_wp2_with fail
        rw [← HW7.out, ← HGE.out]
        clear d0
        go_region_held3 (fun w' => w'.cell? ⟨gx, 0, none⟩ = some (.slice x1 xn x3) ∧ Kp w7 w')
          (first
            | exact ⟨(HBX.out.keep (by first | assumption | exact Kp.refl _ | exact Kp.drewN _ 1 | exact Kp.trans (by assumption) (Kp.drewN _ 1))).cell 0 rfl, (by first | assumption | exact Kp.refl _ | exact Kp.drewN _ 1 | exact Kp.trans (by assumption) (Kp.drewN _ 1))⟩
            | (go_split_ands; exact ⟨(HBX.out.keep (by first | assumption | exact Kp.refl _ | exact Kp.drewN _ 1 | exact Kp.trans (by assumption) (Kp.drewN _ 1))).cell 0 rfl, (by first | assumption | exact Kp.refl _ | exact Kp.drewN _ 1 | exact Kp.trans (by assumption) (Kp.drewN _ 1))⟩)
            | fail "no keep")
          (first
            | (go_at_call 9; refine (HCK.out _ (Kp.drewN _ 1)).mono ?_; rintro e w8 ⟨rfl, hk8⟩; have k8 : Kp w7 w8 := Kp.trans (Kp.drewN w7 1) hk8)
            | (go_at_call 10; refine (HRK.out _ k8).mono ?_; rintro e w9 ⟨rfl, hk9⟩; have k9 : Kp w7 w9 := Kp.trans k8 hk9)
            | fail "no arm")
        have HK9 := Lib.hid k9
        clear c0 k8 hk8 k9 hk9
        obtain ⟨W10, hW10⟩ : ∃ W, W = w9.alloc (.cells #[.string ⟨#[97]⟩, .string ⟨#[]⟩, .string ⟨#[97, 98]⟩, .string S] 9) := ⟨_, rfl⟩
        have HK10 : Hid (Kp w7 W10) := Lib.hid (HK9.out.trans (by rw [hW10]; exact kp_alloc _ _))
        obtain ⟨gU, hgU⟩ : ∃ gU, gU = w9.heap.size := ⟨_, rfl⟩
        have HTX : Hid (∀ k, k < 4 → ∃ y, TxOk y ∧ W10.cell? ⟨gU, k, none⟩ = some (.string (st y))) := Lib.hid (by
          have hb : Blk W10 gU 9 #[.string ⟨#[97]⟩, .string ⟨#[]⟩, .string ⟨#[97, 98]⟩, .string S] := by rw [hW10, hgU]; exact Blk.new _ _ _
          intro k hk
          rcases k with _ | _ | _ | _ | k
          · exact ⟨[97], ⟨Lt.one (by decide), by decide⟩, hb.cell 0 rfl⟩
          · exact ⟨[], ⟨Lt.nil, by decide⟩, hb.cell 1 rfl⟩
          · exact ⟨[97, 98], ⟨Lt.cons (by decide) (Lt.one (by decide)), by decide⟩, hb.cell 2 rfl⟩
          · exact ⟨s, HSO.out, by rw [← HSE.out]; exact hb.cell 3 rfl⟩
          · omega)
        have HW10 := Lib.hid hW10; have HGU := Lib.hid hgU
        clear hW10 hgU
        go_wp2_with fail
        rw [← HW10.out, ← HGU.out]
        go_loopw [72] (fun iv wy => ∃ k : Nat, iv = .int .i64 (k : Nat) ∧ k ≤ 4 ∧ Kp W10 wy) (fun iv _ => 4 - (intOf iv).toNat)
        case atStart => exact ⟨0, rfl, Nat.zero_le _, Kp.refl _⟩
        case round =>
          obtain ⟨k, rfl, hk4, hky⟩ := hrel
          rename World => wy
          by_cases hk : k < 4
          · obtain ⟨y, hyo, hyc⟩ := HTX.out k hk
            have d0 := cell_kept hyc hky
            have HKY := Lib.hid (HK10.out.trans hky)
            have HK1 := Lib.hid hky
            have j2 : (k : Int) < 4 := by omega
            have c0 := (HBX.out.keep HKY.out).cell 0 rfl
            obtain ⟨Y, hY⟩ : ∃ Y, Y = st y := ⟨_, rfl⟩
            obtain ⟨N, hN⟩ : ∃ N, N = fdN y xs := ⟨_, rfl⟩
            obtain ⟨B, hB⟩ : ∃ B, B = fdB y xs := ⟨_, rfl⟩
            obtain ⟨PE, hPE⟩ : ∃ E, E = ptE y xs := ⟨_, rfl⟩
            obtain ⟨PN, hPN⟩ : ∃ E, E = ptN y xs := ⟨_, rfl⟩
            obtain ⟨pl, hpl⟩ : ∃ l, l = (ptL y xs).length := ⟨_, rfl⟩
            have HF : Hid (∀ W', Kp w7 W' → Calls Try.prog 11 #[.agg #[.slice x1 xn x3], .string Y] W' fun e w' => e = .returned (.tuple #[.int .i64 (N : Nat), .bool B]) ∧ Kp W' w') := Lib.hid (fun W' hk => by rw [hY, hN, hB]; exact find_any (HT7.out.keep hk) hyo)
            have HRF : Hid (∀ W', Kp w7 W' → Calls Try.prog 12 #[.agg #[.slice x1 xn x3], .string Y] W' fun e w' => e = .returned (.tuple #[.int .i64 (N : Nat), .bool B]) ∧ Kp W' w') := Lib.hid (fun W' hk => by rw [hY, hN, hB]; exact rFindT_any (HT7.out.keep hk) (by have := HXL.out; have := HXN.out; omega) hyo.1)
            have HP : Hid (∀ W', Kp w7 W' → Calls Try.prog 13 #[.agg #[.slice x1 xn x3], .string Y] W' fun e w' => ∃ p1 p3, e = .returned (.tuple #[.agg #[.slice p1 pl p3], .int .i64 (PN : Nat), .int .i64 (PE : Nat)]) ∧ Tw w' (.slice p1 pl p3) (ptL y xs) ∧ Kp W' w') := Lib.hid (fun W' hk => by
              rw [hY, hPE, hPN, hpl]
              refine (put13_any (HT7.out.keep hk) hyo).mono ?_
              rintro e w' ⟨u, rfl, h1, -, h2⟩
              obtain ⟨p1, p3, rfl, -⟩ := h1.open3
              exact ⟨p1, p3, rfl, h1, h2⟩)
            have HRP : Hid (∀ W', Kp w7 W' → Calls Try.prog 14 #[.agg #[.slice x1 xn x3], .string Y] W' fun e w' => ∃ p1 p3, e = .returned (.tuple #[.agg #[.slice p1 pl p3], .int .i64 (PN : Nat), .int .i64 (PE : Nat)]) ∧ Tw w' (.slice p1 pl p3) (ptL y xs) ∧ Kp W' w') := Lib.hid (fun W' hk => by
              rw [hY, hPE, hPN, hpl]
              refine (rPutT_all (HT7.out.keep hk) hyo).mono ?_
              rintro e w' ⟨u, rfl, h1, -, h2⟩
              obtain ⟨p1, p3, rfl, -⟩ := h1.open3
              exact ⟨p1, p3, rfl, h1, h2⟩)
            have HFEW : Hid ((ptL y xs).length ≤ 1000000) := Lib.hid (ptL_few y xs)
            rw [← hY] at d0
            clear hyo hyc hky hk hk4 hY hN hB hPE hPN hpl
            go_wp2_with fail
            refine (HF.out _ HKY.out).mono ?_
            rintro e v1 ⟨rfl, hv1⟩
            have L1 := Lib.hid hv1
            have c1 := (HBX.out.keep (HKY.out.trans hv1)).cell 0 rfl
            clear hv1 c0 d0
            go_wp2_with fail
            refine (HRF.out _ (HKY.out.trans L1.out)).mono ?_
            rintro e v2 ⟨rfl, hv2⟩
            have L2 := Lib.hid (L1.out.trans hv2)
            have c2 := (HBX.out.keep (HKY.out.trans L2.out)).cell 0 rfl
            clear hv2 c1
            go_wp2_with fail
            refine (HP.out _ (HKY.out.trans L2.out)).mono ?_
            rintro e v3 ⟨p1, p3, rfl, hp, hv3⟩
            obtain ⟨u3, hu3⟩ : ∃ W, W = v3.alloc (.cells #[.slice p1 pl p3] 25) := ⟨_, rfl⟩
            have hku3 : Kp v3 u3 := by rw [hu3]; exact kp_alloc _ _
            have L3 := Lib.hid ((L2.out.trans hv3).trans hku3)
            have c3 := (HBX.out.keep (HKY.out.trans L3.out)).cell 0 rfl
            rw [hu3] at c3
            have HP3 := Lib.hid (hp.keep hku3)
            have HB3 : Hid (Blk u3 v3.heap.size 25 #[.slice p1 pl p3]) := Lib.hid (by rw [hu3]; exact Blk.new _ _ _)
            have HU3 := Lib.hid hu3
            clear hv3 hp hku3 hu3 c2
            go_wp2_with fail
            rw [← HU3.out]
            refine (HRP.out _ (HKY.out.trans L3.out)).mono ?_
            rintro e v4 ⟨r1, r3, rfl, hr, hv4⟩
            obtain ⟨u4, hu4⟩ : ∃ W, W = v4.alloc (.cells #[.slice r1 pl r3] 25) := ⟨_, rfl⟩
            have hku4 : Kp v4 u4 := by rw [hu4]; exact kp_alloc _ _
            have L4 := Lib.hid ((L3.out.trans hv4).trans hku4)
            have c4 := (HB3.out.keep (hv4.trans hku4)).cell 0 rfl
            rw [hu4] at c4
            have c4' := (Blk.new v4 25 #[.slice r1 pl r3]).cell 0 rfl
            have HSM := Lib.hid (rSameT_any (HP3.out.keep (hv4.trans hku4)) (hr.keep hku4) HFEW.out)
            rw [decide_eq_true rfl] at HSM
            have HU4 := Lib.hid hu4
            clear hv4 hr hku4 hu4 c3
            go_wp2_with fail
            rw [← HU4.out]
            refine HSM.out.mono ?_
            rintro e v5 ⟨rfl, hv5⟩
            have L5 := Lib.hid (HK1.out.trans (L4.out.trans hv5))
            clear hv5 c4 c4'
            go_wp2_with fail
            go_roundw
            case rel => exact ⟨k + 1, by go_num, by omega, L5.out⟩
            case measure => simp [intOf]; omega
          · have j3 : (4 : Int) ≤ (k : Int) := by omega
            have HKY := Lib.hid (HK10.out.trans hky)
            have c0 := (HBX.out.keep HKY.out).cell 0 rfl
            clear hk hk4
            obtain ⟨W20, hW20⟩ : ∃ W, W = wy.alloc (.cells #[.int .i64 0, .int .i64 1, .int .i64 (xn : Nat), .int .i64 (-1), .int .i64 nn] 3) := ⟨_, rfl⟩
            have HK20 : Hid (Kp w7 W20) := Lib.hid (HKY.out.trans (by rw [hW20]; exact kp_alloc _ _))
            obtain ⟨gI, hgI⟩ : ∃ gI, gI = wy.heap.size := ⟨_, rfl⟩
            have HIX : Hid (∀ k, k < 5 → ∃ m : Int, W20.cell? ⟨gI, k, none⟩ = some (.int .i64 m)) := Lib.hid (by
              have hb : Blk W20 gI 3 #[.int .i64 0, .int .i64 1, .int .i64 (xn : Nat), .int .i64 (-1), .int .i64 nn] := by rw [hW20, hgI]; exact Blk.new _ _ _
              intro k hk
              rcases k with _ | _ | _ | _ | _ | k
              · exact ⟨_, hb.cell 0 rfl⟩
              · exact ⟨_, hb.cell 1 rfl⟩
              · exact ⟨_, hb.cell 2 rfl⟩
              · exact ⟨_, hb.cell 3 rfl⟩
              · exact ⟨_, hb.cell 4 rfl⟩
              · omega)
            have HW20 := Lib.hid hW20; have HGI := Lib.hid hgI
            clear hW20 hgI hky
            go_wp2_with fail
            rw [← HW20.out, ← HGI.out]
            go_loopw [133] (fun iv wz => ∃ k : Nat, iv = .int .i64 (k : Nat) ∧ k ≤ 5 ∧ Kp W20 wz) (fun iv _ => 5 - (intOf iv).toNat)
            case atStart => exact ⟨0, rfl, Nat.zero_le _, Kp.refl _⟩
            case round =>
              obtain ⟨k, rfl, hk5, hkz⟩ := hrel
              rename World => wz
              by_cases hk : k < 5
              · obtain ⟨m, hmc⟩ := HIX.out k hk
                have d0 := cell_kept hmc hkz
                have HKZ := Lib.hid (HK20.out.trans hkz)
                have HK1 := Lib.hid hkz
                have j2 : (k : Int) < 5 := by omega
                have c0 := (HBX.out.keep HKZ.out).cell 0 rfl
                obtain ⟨GT, hGT⟩ : ∃ S, S = st (gtT m xs) := ⟨_, rfl⟩
                obtain ⟨GE, hGE⟩ : ∃ E, E = gtE m xs := ⟨_, rfl⟩
                have HF : Hid (∀ W', Kp w7 W' → Calls Try.prog 16 #[.agg #[.slice x1 xn x3], .int .i64 m] W' fun e w' => e = .returned (.tuple #[.string GT, .int .i64 (GE : Nat)]) ∧ Kp W' w') := Lib.hid (fun W' hk => by rw [hGT, hGE]; exact get_any (HT7.out.keep hk) m)
                have HRF : Hid (∀ W', Kp w7 W' → Calls Try.prog 17 #[.agg #[.slice x1 xn x3], .int .i64 m] W' fun e w' => e = .returned (.tuple #[.string GT, .int .i64 (GE : Nat)]) ∧ Kp W' w') := Lib.hid (fun W' hk => by rw [hGT, hGE]; exact rGetT_any (HT7.out.keep hk) m)
                clear hmc hkz hk hk5 hGT hGE
                go_wp2_with fail
                refine (HF.out _ HKZ.out).mono ?_
                rintro e v1 ⟨rfl, hv1⟩
                have L1 := Lib.hid hv1
                have c1 := (HBX.out.keep (HKZ.out.trans hv1)).cell 0 rfl
                clear hv1 c0 d0
                go_wp2_with fail
                refine (HRF.out _ (HKZ.out.trans L1.out)).mono ?_
                rintro e v2 ⟨rfl, hv2⟩
                have L2 := Lib.hid (HK1.out.trans (L1.out.trans hv2))
                clear hv2 c1
                go_wp2_with fail
                go_roundw
                case rel => exact ⟨k + 1, by go_num, by omega, L2.out⟩
                case measure => simp [intOf]; omega
              · have j4 : (5 : Int) ≤ (k : Int) := by omega
                have HKZ := Lib.hid (HK20.out.trans hkz)
                have HNX := Lib.hid (Next_q (n := (2 - j) * 6 - 1) ((HQ7.out.keep HKZ.out).less (by have := HJ1.out; omega)) 6 (by omega) (by omega))
                clear hk hk5 hkz
                go_wp2_with fail
                refine HNX.out.mono ?_
                rintro e w30 ⟨⟨r, hr, rfl⟩, hq30, hg30⟩
                have HQ30 := Lib.hid hq30; have HG30 := Lib.hid hg30; have HR := Lib.hid hr
                clear hq30 hg30
                go_wp2_with fail
                go_loopw [32, 33] (fun uv iv wy => ∃ (us : List Int) (k : Nat), iv = .int .i64 (k : Nat) ∧ k + us.length ≤ 5 ∧ OwJ w wy uv us ∧ (∀ c, uv.ownBlock = some c → w30.heap.size ≤ c) ∧ Tq w wy g (k + (1 - j) * 6) ∧ Gr g w30 wy) (fun _ iv _ => (intOf iv).toNat)
                case atStart => exact ⟨[], r, by go_num, by simp; omega, (OwJ.start w30).base HQ30.out.base, fun c hc => by simp [Value.ownBlock] at hc, HQ30.out.less (by have := HJ1.out; omega), Gr.refl _ _⟩
                case round =>
                  obtain ⟨us, k, rfl, hku, hoj, hown, hqy, hgy⟩ := hrel
                  rename World => wy
                  have HG1 : Hid (Gr g w7 wy) := Lib.hid (((HKZ.out).gr g).trans (HG30.out.trans hgy))
                  have c0 := cell_gr HG1.out (HBX.out.cell 0 rfl) HGX.out
                  obtain ⟨⟨n1, n2, n3, rfl⟩, -⟩ := row_frc hoj.owns
                  by_cases hk : 0 < k
                  · have j2 : (0 : Int) < (k : Int) := by omega
                    have j5 : (k : Int) ≤ 5 := by omega
                    have hqy' : Tq w wy g ((k - 1 + (1 - j) * 6) + 1) := hqy.less (by omega)
                    have hNX := Next_big hqy' (xn + 1) (by omega) (by have := HXL.out; omega)
                    rw [show ((xn + 1 : Nat) : Int) = (xn : Int) + 1 by omega] at hNX
                    have HNX := Lib.hid hNX
                    have HOJ := Lib.hid hoj; have HOWN := Lib.hid hown; have HGY := Lib.hid hgy; have HKU := Lib.hid hku
                    have HGG : Hid (w.heap.size ≤ g ∧ g < w30.heap.size) := Lib.hid ⟨HQ30.out.ge, HQ30.out.lt⟩
                    have HKP := Lib.hid hk
                    clear hNX hqy hqy' hoj hown hgy hk hku
                    go_wp2_with fail
                    refine HNX.out.mono ?_
                    rintro e v1 ⟨⟨r1, hr1, rfl⟩, hq1, hg1⟩
                    have HGA : Hid (Gr g w30 v1) := Lib.hid (HGY.out.trans hg1)
                    have HO1 : Hid (OwJ w (v1.alloc (.cells #[.int .i64 (r1 : Int)] 3)) (.slice n1 n2 n3) us) := Lib.hid ((HOJ.out.by hg1 (fun r hr => by injection hr with hr; rw [← hr]; exact HGG.out.1) (fun c hc e => by injection e with e; have := HOWN.out c hc; have := HGG.out.2; omega)).keep (kp_alloc _ _))
                    have HNB : Hid (Blk (v1.alloc (.cells #[.int .i64 (r1 : Int)] 3)) v1.heap.size 3 #[.int .i64 (r1 : Int)]) := Lib.hid (Blk.new _ _ _)
                    have HQ1 := Lib.hid (hq1.keep (kp_alloc v1 (.cells #[.int .i64 (r1 : Int)] 3)))
                    have HR1 := Lib.hid hr1
                    clear hq1 hg1 hr1 c0
                    go_wp2_with (at_builtin; refine wpList_it (w := w) rfl (.tmp 164) (.tmp 171) rfl _ rfl HO1.out (by have := HKU.out; omega) (r1 : Int) (by have := HR1.out; have := HXL.out; unfold IxOk; omega) v1.heap.size rfl HNB.out ?_)
                    intro v8 w8 ho8 hg8 ha8
                    have HGB : Hid (Gr g w30 w8) := Lib.hid (Gr.by (HGA.out.trans ((kp_alloc _ _).gr g)) hg8 (fun r hr => HOWN.out r hr))
                    have hown8 : ∀ c, v8.ownBlock = some c → w30.heap.size ≤ c := fun c hc => by
                      rcases ha8 with e | e
                      · exact HOWN.out c (e ▸ hc)
                      · rw [e] at hc; injection hc with hc
                        have h1 := HGA.out.size
                        omega
                    have HQ8 := Lib.hid (HQ1.out.by hg8 (fun r hr => by have h1 := HOWN.out r hr; have h2 := HGG.out; omega))
                    have HO8 := Lib.hid ho8; have HOW8 := Lib.hid hown8
                    clear ho8 hg8 ha8 hown8
                    go_wp2_with fail
                    go_roundw
                    case rel => exact ⟨us ++ [(r1 : Int)], k - 1, by have := HKP.out; go_num, by have := HKU.out; have := HKP.out; simp; omega, HO8.out, HOW8.out, HQ8.out, HGB.out⟩
                    case measure => have := HKP.out; simp [intOf]; try omega
                  · obtain rfl : k = 0 := by omega
                    have hTy : Tw wy (.slice x1 xn x3) xs := (HT7.out.keep HKZ.out).far (HG30.out.trans hgy) HXG.out
                    have HTY := Lib.hid hTy
                    have HJY := Lib.hid hoj.jw
                    have HUL : Hid (us.length ≤ 1000000) := Lib.hid (by omega)
                    obtain ⟨KE, hKE⟩ : ∃ E, E = kpE xs us := ⟨_, rfl⟩
                    obtain ⟨kl, hkl⟩ : ∃ l, l = (kpL xs us).length := ⟨_, rfl⟩
                    obtain ⟨kn, hkn⟩ : ∃ l, l = (kpN xs us).length := ⟨_, rfl⟩
                    have HP : Hid (∀ W', Kp wy W' → Calls Try.prog 19 #[.agg #[.slice x1 xn x3], .slice n1 n2 n3] W' fun e w' => ∃ p1 p3 m1 m3, e = .returned (.tuple #[.agg #[.slice p1 kl p3], .slice m1 kn m3, .int .i64 (KE : Nat)]) ∧ Tw w' (.slice p1 kl p3) (kpL xs us) ∧ Jw w' (.slice m1 kn m3) (kpN xs us) ∧ Kp W' w') := Lib.hid (fun W' hk => by
                      rw [hKE, hkl, hkn]
                      refine (keep_any (HTY.out.keep hk) (HJY.out.keep hk) HUL.out).mono ?_
                      rintro e w' ⟨u, nv, rfl, h1, h2, -, -, h3⟩
                      obtain ⟨p1, p3, rfl, -⟩ := h1.open3
                      obtain ⟨m1, m3, rfl, -⟩ := h2.open3
                      exact ⟨p1, p3, m1, m3, rfl, h1, h2, h3⟩)
                    have HRP : Hid (∀ W', Kp wy W' → Calls Try.prog 20 #[.agg #[.slice x1 xn x3], .slice n1 n2 n3] W' fun e w' => ∃ p1 p3 m1 m3, e = .returned (.tuple #[.agg #[.slice p1 kl p3], .slice m1 kn m3, .int .i64 (KE : Nat)]) ∧ Tw w' (.slice p1 kl p3) (kpL xs us) ∧ Jw w' (.slice m1 kn m3) (kpN xs us) ∧ Kp W' w') := Lib.hid (fun W' hk => by
                      rw [hKE, hkl, hkn]
                      refine (rKeepT_any (HTY.out.keep hk) (HJY.out.keep hk) HUL.out).mono ?_
                      rintro e w' ⟨u, nv, rfl, h1, h2, -, -, h3⟩
                      obtain ⟨p1, p3, rfl, -⟩ := h1.open3
                      obtain ⟨m1, m3, rfl, -⟩ := h2.open3
                      exact ⟨p1, p3, m1, m3, rfl, h1, h2, h3⟩)
                    have HFEW := Lib.hid (kp_few xs us)
                    have HBY : Hid (∀ W', Kp wy W' → W'.cell? ⟨gx, 0, none⟩ = some (.slice x1 xn x3)) := Lib.hid (fun W' hk => cell_kept c0 hk)
                    have HQY := Lib.hid hqy; have HGY := Lib.hid (HG1.out)
                    clear hTy hoj hown hqy hgy hk hku hKE hkl hkn
                    go_wp2_with fail
                    refine (HP.out _ (Kp.refl _)).mono ?_
                    rintro e v3 ⟨p1, p3, m1, m3, rfl, hp, hm, hv3⟩
                    obtain ⟨u3, hu3⟩ : ∃ W, W = v3.alloc (.cells #[.slice p1 kl p3] 25) := ⟨_, rfl⟩
                    have hku3 : Kp v3 u3 := by rw [hu3]; exact kp_alloc _ _
                    have L3 := Lib.hid (hv3.trans hku3)
                    have c3 := HBY.out _ L3.out
                    rw [hu3] at c3
                    have HP3 := Lib.hid (hp.keep hku3); have HM3 := Lib.hid (hm.keep hku3)
                    have HB3 : Hid (Blk u3 v3.heap.size 25 #[.slice p1 kl p3]) := Lib.hid (by rw [hu3]; exact Blk.new _ _ _)
                    have HU3 := Lib.hid hu3
                    clear hv3 hp hm hku3 hu3 c0
                    go_wp2_with fail
                    rw [← HU3.out]
                    refine (HRP.out _ L3.out).mono ?_
                    rintro e v4 ⟨r1, r3, o1, o3, rfl, hr, ho, hv4⟩
                    obtain ⟨u4, hu4⟩ : ∃ W, W = v4.alloc (.cells #[.slice r1 kl r3] 25) := ⟨_, rfl⟩
                    have hku4 : Kp v4 u4 := by rw [hu4]; exact kp_alloc _ _
                    have L4 := Lib.hid ((L3.out.trans hv4).trans hku4)
                    have c4 := (HB3.out.keep (hv4.trans hku4)).cell 0 rfl
                    rw [hu4] at c4
                    have c4' := (Blk.new v4 25 #[.slice r1 kl r3]).cell 0 rfl
                    have HSM := Lib.hid (rSameT_any (HP3.out.keep (hv4.trans hku4)) (hr.keep hku4) HFEW.out.1)
                    rw [decide_eq_true rfl] at HSM
                    have HSJ : Hid (∀ W', Kp u4 W' → Calls Try.prog 21 #[.slice m1 kn m3, .slice o1 kn o3] W' fun e w' => e = .returned (.bool true) ∧ Kp W' w') := Lib.hid (fun W' hk => by
                      have h := SameInts_any ((HM3.out.keep (hv4.trans hku4)).keep hk) ((ho.keep hku4).keep hk) HFEW.out.2
                      rwa [decide_eq_true rfl] at h)
                    have HU4 := Lib.hid hu4
                    clear hv4 hr ho hku4 hu4 c3
                    go_wp2_with fail
                    rw [← HU4.out]
                    refine HSM.out.mono ?_
                    rintro e v5 ⟨rfl, hv5⟩
                    have L5 := Lib.hid hv5
                    clear hv5 c4 c4'
                    go_wp2_with fail
                    refine (HSJ.out _ L5.out).mono ?_
                    rintro e v6 ⟨rfl, hv6⟩
                    have L6 := Lib.hid (L4.out.trans (L5.out.trans hv6))
                    clear hv6
                    go_wp2_with fail
                    go_roundw
                    case rel => exact ⟨j + 1, by go_num, by have := HJ1.out; omega, (HQY.out.keep L6.out).less (by omega), (HG.out.trans (HK7.out.gr g)).trans (HGY.out.trans (L6.out.gr g))⟩
                    case measure => simp [intOf]; have := HJ1.out; omega
      · obtain rfl : j = 2 := by omega
        have c0 := cell_gr hg (HCA.out) HGA6.out
        have c1 := cell_gr hg (HCB.out) HGB6.out
        have HTA := Lib.hid (TA6.out.far hg HAG.out)
        have HTB := Lib.hid (TB6.out.far hg HBG.out)
        obtain ⟨KE, hKE⟩ : ∃ E, E = mgE a bs := ⟨_, rfl⟩
        obtain ⟨kl, hkl⟩ : ∃ l, l = (mgL a bs).length := ⟨_, rfl⟩
        obtain ⟨kn, hkn⟩ : ∃ l, l = (mgN a bs).length := ⟨_, rfl⟩
        have HP : Hid (∀ W', Kp wr W' → Calls Try.prog 22 #[.agg #[.slice a1 an a3], .agg #[.slice b1 bn b3]] W' fun e w' => ∃ p1 p3 m1 m3, e = .returned (.tuple #[.agg #[.slice p1 kl p3], .slice m1 kn m3, .int .i64 (KE : Nat)]) ∧ Tw w' (.slice p1 kl p3) (mgL a bs) ∧ Jw w' (.slice m1 kn m3) (mgN a bs) ∧ Kp W' w') := Lib.hid (fun W' hk => by
          rw [hKE, hkl, hkn]
          refine (merge_any (HTA.out.keep hk) (HTB.out.keep hk)).mono ?_
          rintro e w' ⟨u, nv, rfl, h1, h2, -, -, h3⟩
          obtain ⟨p1, p3, rfl, -⟩ := h1.open3
          obtain ⟨m1, m3, rfl, -⟩ := h2.open3
          exact ⟨p1, p3, m1, m3, rfl, h1, h2, h3⟩)
        have HRP : Hid (∀ W', Kp wr W' → Calls Try.prog 23 #[.agg #[.slice a1 an a3], .agg #[.slice b1 bn b3]] W' fun e w' => ∃ p1 p3 m1 m3, e = .returned (.tuple #[.agg #[.slice p1 kl p3], .slice m1 kn m3, .int .i64 (KE : Nat)]) ∧ Tw w' (.slice p1 kl p3) (mgL a bs) ∧ Jw w' (.slice m1 kn m3) (mgN a bs) ∧ Kp W' w') := Lib.hid (fun W' hk => by
          rw [hKE, hkl, hkn]
          refine (rMergeT_any (HTA.out.keep hk) (HTB.out.keep hk)).mono ?_
          rintro e w' ⟨u, nv, rfl, h1, h2, -, -, h3⟩
          obtain ⟨p1, p3, rfl, -⟩ := h1.open3
          obtain ⟨m1, m3, rfl, -⟩ := h2.open3
          exact ⟨p1, p3, m1, m3, rfl, h1, h2, h3⟩)
        have HFEW := Lib.hid (mg_few a bs)
        have HC0 : Hid (∀ W', Kp wr W' → W'.cell? ⟨gA, 0, none⟩ = some (.slice a1 an a3) ∧ W'.cell? ⟨gA + 1, 0, none⟩ = some (.slice b1 bn b3)) := Lib.hid (fun W' hk => ⟨cell_kept c0 hk, cell_kept c1 hk⟩)
        have HQY := Lib.hid hq.base
        have CA := Lib.hid (fun W => awake13_any putC getC W)
        clear hq hg hlt hj hKE hkl hkn
        go_wp2_with fail
        refine (HP.out _ (Kp.refl _)).mono ?_
        rintro e v3 ⟨p1, p3, m1, m3, rfl, hp, hm, hv3⟩
        obtain ⟨u3, hu3⟩ : ∃ W, W = v3.alloc (.cells #[.slice p1 kl p3] 25) := ⟨_, rfl⟩
        have hku3 : Kp v3 u3 := by rw [hu3]; exact kp_alloc _ _
        have L3 := Lib.hid (hv3.trans hku3)
        have c3 := (HC0.out _ L3.out).1
        have c3' := (HC0.out _ L3.out).2
        rw [hu3] at c3 c3'
        have HP3 := Lib.hid (hp.keep hku3); have HM3 := Lib.hid (hm.keep hku3)
        have HB3 : Hid (Blk u3 v3.heap.size 25 #[.slice p1 kl p3]) := Lib.hid (by rw [hu3]; exact Blk.new _ _ _)
        have HU3 := Lib.hid hu3
        clear hv3 hp hm hku3 hu3 c0 c1
        go_wp2_with fail
        rw [← HU3.out]
        refine (HRP.out _ L3.out).mono ?_
        rintro e v4 ⟨r1, r3, o1, o3, rfl, hr, ho, hv4⟩
        obtain ⟨u4, hu4⟩ : ∃ W, W = v4.alloc (.cells #[.slice r1 kl r3] 25) := ⟨_, rfl⟩
        have hku4 : Kp v4 u4 := by rw [hu4]; exact kp_alloc _ _
        have L4 := Lib.hid ((L3.out.trans hv4).trans hku4)
        have c4 := (HB3.out.keep (hv4.trans hku4)).cell 0 rfl
        rw [hu4] at c4
        have c4' := (Blk.new v4 25 #[.slice r1 kl r3]).cell 0 rfl
        have HSM := Lib.hid (rSameT_any (HP3.out.keep (hv4.trans hku4)) (hr.keep hku4) HFEW.out.1)
        rw [decide_eq_true rfl] at HSM
        have HSJ : Hid (∀ W', Kp u4 W' → Calls Try.prog 21 #[.slice m1 kn m3, .slice o1 kn o3] W' fun e w' => e = .returned (.bool true) ∧ Kp W' w') := Lib.hid (fun W' hk => by
          have h := SameInts_any ((HM3.out.keep (hv4.trans hku4)).keep hk) ((ho.keep hku4).keep hk) HFEW.out.2
          rwa [decide_eq_true rfl] at h)
        have HU4 := Lib.hid hu4
        clear hv4 hr ho hku4 hu4 c3 c3'
        go_wp2_with fail
        rw [← HU4.out]
        refine HSM.out.mono ?_
        rintro e v5 ⟨rfl, hv5⟩
        have L5 := Lib.hid hv5
        clear hv5 c4 c4'
        go_wp2_with fail
        refine (HSJ.out _ L5.out).mono ?_
        rintro e v6 ⟨rfl, hv6⟩
        have L6 := Lib.hid (L4.out.trans (L5.out.trans hv6))
        clear hv6
        go_wp2_with fail
        refine (CA.out _).mono ?_
        rintro e v7 ⟨rfl, hv7⟩
        have L7 := Lib.hid (HQY.out.trans (L6.out.trans hv7))
        clear hv7
        go_wp2_with fail
        go_ret
        exact ⟨rfl, L7.out⟩
end By
end Go.Proofs.Ytlfoikjbbbhbdaa
