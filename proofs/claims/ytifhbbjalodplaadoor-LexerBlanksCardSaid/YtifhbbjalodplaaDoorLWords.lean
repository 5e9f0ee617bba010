/- The tape's One and the laws' words. Conditions: the tape lies in memory as it is named, and has been read fewer than a million times. -/
import Derived.Test.YtifhbbjalodplaaDoorLTape
import Derived.Test.YtifhbbjalodplaaDoorLSame
namespace Go.Proofs.YtifhbbjalodplaaDoor
namespace By
open Go.RowKit WireN LexN
set_option linter.unusedVariables false
set_option linter.unusedSimpArgs false

def W25 : List (List Nat) := [[97], [98, 57, 95], [105, 102], [48], [48, 48, 55], [57, 48, 48, 55, 49, 57, 57, 50, 53, 52, 55, 52, 48, 57, 57, 50], [57, 48, 48, 55, 49, 57, 57, 50, 53, 52, 55, 52, 48, 57, 57, 51], [57, 57, 57, 57, 57, 57, 57, 57, 57, 57, 57, 57, 57, 57, 57, 57, 57, 57, 57, 57], [34, 97, 47, 98, 34], [34, 34], [34, 32, 120, 34], [59], [44], [40], [41], [43], [45], [42], [47], [37], [60], [61], [61, 61], [97, 98, 99, 100, 101, 102, 103, 104, 105, 106, 107, 108, 109, 110, 111, 112, 113, 114, 115, 116, 117, 118, 119, 120], [97, 98, 99, 100, 101, 102, 103, 104, 105, 106, 107, 108, 109, 110, 111, 112, 113, 114, 115, 116, 117, 118, 119, 120, 121]]
def S8 : List (List Nat) := [[], [32], [32, 32], [10], [9, 13], [35, 32, 99, 10], [35], [11]]
def S5 : List (List Nat) := [[32], [10, 10], [9], [32, 35, 32, 99, 32, 59, 32, 10], [13]]
def N5 : List (List Nat) := [[47], [47], [], [47, 47], [65]]
theorem a25 : (W25.map fun x => Value.string (st x)).toArray = #[.string ⟨#[97]⟩, .string ⟨#[98, 57, 95]⟩, .string ⟨#[105, 102]⟩, .string ⟨#[48]⟩, .string ⟨#[48, 48, 55]⟩, .string ⟨#[57, 48, 48, 55, 49, 57, 57, 50, 53, 52, 55, 52, 48, 57, 57, 50]⟩, .string ⟨#[57, 48, 48, 55, 49, 57, 57, 50, 53, 52, 55, 52, 48, 57, 57, 51]⟩, .string ⟨#[57, 57, 57, 57, 57, 57, 57, 57, 57, 57, 57, 57, 57, 57, 57, 57, 57, 57, 57, 57]⟩, .string ⟨#[34, 97, 47, 98, 34]⟩, .string ⟨#[34, 34]⟩, .string ⟨#[34, 32, 120, 34]⟩, .string ⟨#[59]⟩, .string ⟨#[44]⟩, .string ⟨#[40]⟩, .string ⟨#[41]⟩, .string ⟨#[43]⟩, .string ⟨#[45]⟩, .string ⟨#[42]⟩, .string ⟨#[47]⟩, .string ⟨#[37]⟩, .string ⟨#[60]⟩, .string ⟨#[61]⟩, .string ⟨#[61, 61]⟩, .string ⟨#[97, 98, 99, 100, 101, 102, 103, 104, 105, 106, 107, 108, 109, 110, 111, 112, 113, 114, 115, 116, 117, 118, 119, 120]⟩, .string ⟨#[97, 98, 99, 100, 101, 102, 103, 104, 105, 106, 107, 108, 109, 110, 111, 112, 113, 114, 115, 116, 117, 118, 119, 120, 121]⟩] := rfl
theorem a8 : (S8.map fun x => Value.string (st x)).toArray = #[.string ⟨#[]⟩, .string ⟨#[32]⟩, .string ⟨#[32, 32]⟩, .string ⟨#[10]⟩, .string ⟨#[9, 13]⟩, .string ⟨#[35, 32, 99, 10]⟩, .string ⟨#[35]⟩, .string ⟨#[11]⟩] := rfl
theorem a5 : (S5.map fun x => Value.string (st x)).toArray = #[.string ⟨#[32]⟩, .string ⟨#[10, 10]⟩, .string ⟨#[9]⟩, .string ⟨#[32, 35, 32, 99, 32, 59, 32, 10]⟩, .string ⟨#[13]⟩] := rfl
theorem n5 : (N5.map fun x => Value.string (st x)).toArray = #[.string ⟨#[47]⟩, .string ⟨#[47]⟩, .string ⟨#[]⟩, .string ⟨#[47, 47]⟩, .string ⟨#[65]⟩] := rfl
/-- Strings in a block. -/
def Sr (w : World) (b : Nat) (ss : List (List Nat)) : Prop := ∀ (i : Nat) (x : List Nat), ss[i]? = some x → w.cell? ⟨b, i, none⟩ = some (.string (st x))
theorem Sr.new {w : World} {t : TypeId} {ss : List (List Nat)} {cs : Array Value} (h : (ss.map fun x => Value.string (st x)).toArray = cs) : Sr (w.alloc (.cells cs t)) w.heap.size ss := by
  intro i x hx
  refine (Blk.new w t cs).cell i ?_
  rw [← h]
  simp [hx]
theorem Sr.only {w w' : World} {b g : Nat} {ss : List (List Nat)} (h : Sr w b ss) (ho : Only g w w') (hb : b ≠ g) : Sr w' b ss :=
  fun i x hx => (World.cell?_of_block (ho.block b hb)).trans (h i x hx)

set_option maxRecDepth 100000 in
set_option maxHeartbeats 1000000 in
theorem TOne_any {w0 w : World} {g at' : Nat} (ht : Tp w0 w g at') (ha : at' < 1000000) {b n cap : Nat} {ss : List (List Nat)} (hs : Sr w b ss) (hn : ss.length = n) (hn2 : 2 ≤ n) (hn3 : n ≤ 1000) (hc : n ≤ cap) (hb : b ≠ g) :
    Calls Tryd.prog 17 #[.pointer (some ⟨g, 0, none⟩), .slice (some ⟨b, 0, none⟩) n cap] w fun e w' => (∃ x, x ∈ ss ∧ e = .returned (.string (st x))) ∧ Tp w0 w' g (at' + 1) ∧ Only g w w' := by
  have HT := Lib.hid ht; have HS := Lib.hid hs; have HN := Lib.hid hn; have HB := Lib.hid hb; have HA := Lib.hid ha
  have i0 : ((n : Int) == 0) = false := beq_eq_false_iff_ne.2 (by omega)
  have i1 : (n : Int) ≤ (cap : Int) := by omega
  have i2 : (n : Int) ≤ 1000 := by omega
  clear ht hs hn hb ha
  go_enter Tryd.func17, Tryd.ntmps17
  go_wp2_with fail
  refine (TNext_any HT.out HA.out n hn2 (by omega)).mono ?_
  rintro e w1 ⟨⟨r, hr, rfl⟩, htp1, ho1⟩
  have HTP1 := Lib.hid htp1; have HO1 := Lib.hid ho1
  have hrl : r < ss.length := by have := HN.out; omega
  have hcell := (HS.out.only ho1 HB.out) r ss[r] (List.getElem?_eq_getElem hrl)
  have HMEM : Hid (ss[r] ∈ ss) := Lib.hid (List.getElem_mem hrl)
  obtain ⟨x, hx⟩ : ∃ x, x = ss[r] := ⟨_, rfl⟩
  rw [← hx] at hcell HMEM
  obtain ⟨X, hX⟩ : ∃ X, X = st x := ⟨_, rfl⟩
  rw [← hX] at hcell
  have HXX := Lib.hid hX
  have hri : (r : Int) < (n : Int) := by omega
  clear htp1 ho1 hrl hx hX
  go_wp2_with fail
  go_ret
  exact ⟨⟨x, HMEM.out, by rw [← HXX.out]; rfl⟩, HTP1.out, HO1.out⟩
/-- A row of strings of the call's own. -/
structure WRow (w W : World) (v : Value) (ws : List (List Nat)) : Prop where
  own : W.ownsRow w.heap.size 9 1 v ws.length (ws.map fun x => .string (st x))
theorem WRow.form {w W : World} {v : Value} {ws : List (List Nat)} (h : WRow w W v ws) : ∃ ao cap, v = .slice ao ws.length cap ∧ ws.length ≤ cap := by
  rcases h.own.2 with ⟨rfl, h0⟩ | ⟨g, cap, cur, rfl, hb, hg, hnc, hcm, hsz, htake⟩
  · exact ⟨none, 0, by rw [h0], by omega⟩
  · exact ⟨_, cap, rfl, hnc⟩
theorem WRow.keep {w W W' : World} {v : Value} {ws : List (List Nat)} (h : WRow w W v ws) (hk : Kp W W') : WRow w W' v ws := by
  refine ⟨⟨h.own.1, ?_⟩⟩
  rcases h.own.2 with hn | ⟨g, cap, cur, e, hb, hg, r⟩
  · exact .inl hn
  · exact .inr ⟨g, cap, cur, e, hb, by rw [hk.block g (lt_of_block hg)]; exact hg, r⟩
theorem WRow.kept {w W W' : World} {v : Value} {ws : List (List Nat)} {g : Nat} (h : WRow w W v ws) (hg : Gr g W W') (hlt : g < w.heap.size) : WRow w W' v ws := by
  refine ⟨⟨h.own.1, ?_⟩⟩
  rcases h.own.2 with hn | ⟨k, cap, cur, e, hb, hk, r⟩
  · exact .inl hn
  · exact .inr ⟨k, cap, cur, e, hb, by rw [hg.block k (lt_of_block hk) (fun e => by injection e; omega)]; exact hk, r⟩
theorem WRow.cell {w W : World} {v : Value} {ws : List (List Nat)} (h : WRow w W v ws) (hn : 0 < ws.length) : ∃ g cap, v = .slice (some ⟨g, 0, none⟩) ws.length cap ∧ ws.length ≤ cap ∧ w.heap.size ≤ g ∧ g < W.heap.size ∧ Sr W g ws := by
  rcases h.own.2 with ⟨rfl, h0⟩ | ⟨g, cap, cur, rfl, hb, hg, hnc, hcm, hsz, htake⟩
  · omega
  · refine ⟨g, cap, rfl, hnc, hb, lt_of_block hg, fun i x hx => ?_⟩
    have hi : i < ws.length := by
      rcases Nat.lt_or_ge i ws.length with h | h
      · exact h
      · rw [List.getElem?_eq_none h] at hx; cases hx
    rw [cell_of_row W g _ _ _ (0, 0) hg, ← Array.getElem?_toList]
    have h1 : (cur.toList.take (ws.length * 1))[i]? = (ws.map fun x => Value.string (st x))[i]? := by rw [htake]
    rw [List.getElem?_take, if_pos (by omega), List.getElem?_map, hx] at h1
    exact h1
theorem infoS : (Tryd.prog.info? 9).map (fun i => (i.zero, i.size, i.bytes)) = some (some (.string ⟨#[]⟩), 1, 16) := by kernel_rfl
/-- append of a string. -/
theorem wpList_str {w wx : World} {ops : Array Oper} {rest : List Oper} {o : Oper} {a : Act} {Q : Exit → Act → World → Prop} (hgd : o.guard = none) (s x : Operand)
    (ho : o.op = .call { callee := .builtin .append, args := #[s, x], argTypes := #[30, 30] })
    (v : Value) (ws : List (List Nat)) (hs : a.eval s = v) (hown : WRow w wx v ws) (y : List Nat) (g : Nat) (hx : a.eval x = .slice (some ⟨g, 0, none⟩) 1 1)
    (hc : wx.cell? ⟨g, 0, none⟩ = some (.string (st y))) (hn : ws.length ≤ 100000) (hb : w.heap.size ≤ wx.heap.size)
    (h : ∀ v' w', WRow w w' v' (ws ++ [y]) → wx.grownBy w' v.ownBlock → wpList Tryd.prog ops Q rest (a.put o.dst v') w') : wpList Tryd.prog ops Q (o :: rest) a wx := by
  obtain ⟨i, hi, hz, hsize, hby⟩ := info_parts infoS
  refine wpList_append_own_at (P := Tryd.prog) wx hgd s x _ ho w.heap.size _ i _ 1 16 Tryd.underlying30 hi hz hsize hby rfl (by omega) v ws.length _ hs hown.own ⟨g, 0, none⟩ 1 1 [.string (st y)] hx rfl ?_ ?_ (by unfold maxLen; omega) (by omega) hb ?_
  · intro j u hu
    rw [Addr.add_lit]
    match j, hu with
    | 0, hu =>
      simp only [List.getElem?_cons_zero, Option.some.injEq] at hu
      subst hu; exact hc
  · intro u hu
    simp only [List.mem_singleton] at hu
    subst hu; rfl
  · intro v' w' h1 h2 h3 h4
    refine h v' w' ⟨?_⟩ h2
    rw [List.length_append, List.length_singleton, List.map_append]
    exact h1
theorem WRow.ge {w W : World} {v : Value} {ws : List (List Nat)} (h : WRow w W v ws) : ∀ r, v.ownBlock = some r → w.heap.size ≤ r := fun r hr => (h.own.lt r hr).1
/-- What words leaves. -/
structure WordsR (w0 w : World) (g at' : Nat) (e : Ending) (w' : World) : Prop where
  ex : ∃ v ws at2, e = .returned v ∧ WRow w w' v ws ∧ (∀ x ∈ ws, x ∈ W25) ∧ ws.length ≤ 13 ∧ Tp w0 w' g at2 ∧ at2 ≤ at' + 14
  gr : Gr g w w'

set_option maxRecDepth 100000 in
set_option maxHeartbeats 2000000 in
theorem words_any {w0 w : World} {g at' : Nat} (ht : Tp w0 w g at') (ha : at' < 1000) :
    Calls Tryd.prog 16 #[.pointer (some ⟨g, 0, none⟩)] w (WordsR w0 w g at') := by
  have HT := Lib.hid ht; have HA := Lib.hid ha
  have HGW : Hid (g < w.heap.size) := Lib.hid (by obtain ⟨_, _, _, _, _, hb⟩ := ht.ex; exact hb.lt)
  obtain ⟨R, hR⟩ : ∃ R, R = WordsR w0 w g at' := ⟨_, rfl⟩
  have FIN : Hid (∀ v ws at2 w', WRow w w' v ws → (∀ x ∈ ws, x ∈ W25) → ws.length ≤ 13 → Tp w0 w' g at2 → at2 ≤ at' + 14 → Gr g w w' → R (.returned v) w') := Lib.hid (fun v ws at2 w' h1 h2 h3 h4 h5 h6 => by rw [hR]; exact ⟨⟨v, ws, at2, rfl, h1, h2, h3, h4, h5⟩, h6⟩)
  rw [← hR]
  clear ht ha hR
  go_enter Tryd.func16, Tryd.ntmps16
  go_wp2_with fail
  refine (TNext_any HT.out (by have := HA.out; omega) 14 (by omega) (by omega)).mono ?_
  rintro e w1 ⟨⟨r, hr, rfl⟩, htp1, ho1⟩
  have HTP1 := Lib.hid htp1; have HG1 := Lib.hid (Only.gr ho1); have HR1 := Lib.hid hr
  clear htp1 ho1 hr
  go_wp2_with fail
  go_loopw [3, 4] (fun v q wr => ∃ (k : Nat) (ws : List (List Nat)) (at2 : Nat), q = .int .i64 k ∧ k + ws.length = r ∧ WRow w wr v ws ∧ (∀ x ∈ ws, x ∈ W25) ∧ Tp w0 wr g at2 ∧ at2 = at' + 1 + ws.length ∧ Gr g w wr) (fun _ q _ => (intOf q).toNat)
  case atStart => exact ⟨r, [], at' + 1, rfl, rfl, ⟨World.ownsRow_nil _ _ _ _⟩, by simp, HTP1.out, rfl, HG1.out⟩
  case round =>
    obtain ⟨k, ws, at2, rfl, hkr, hrow, hall, htp, hat2, hgr⟩ := hrel
    rename World => wx
    have HROW := Lib.hid hrow; have HALL := Lib.hid hall; have HTP := Lib.hid htp; have HGR := Lib.hid hgr; have HAT := Lib.hid hat2; have HKR := Lib.hid hkr
    obtain ⟨ao, cap, hv, -⟩ := hrow.form
    subst hv
    obtain ⟨wn, hwn⟩ : ∃ wn, wn = ws.length := ⟨_, rfl⟩
    have HWN := Lib.hid hwn
    rw [← hwn] at HROW ⊢
    have hkb : (k : Int) ≤ 14 := by have := HR1.out; omega
    clear hrow hall htp hgr hat2 hkr hwn
    by_cases hk : 0 < k
    · have hki : (0 : Int) < (k : Int) := by omega
      have HKA := Lib.hid (kp_alloc wx (.cells #[.string ⟨#[97]⟩, .string ⟨#[98, 57, 95]⟩, .string ⟨#[105, 102]⟩, .string ⟨#[48]⟩, .string ⟨#[48, 48, 55]⟩, .string ⟨#[57, 48, 48, 55, 49, 57, 57, 50, 53, 52, 55, 52, 48, 57, 57, 50]⟩, .string ⟨#[57, 48, 48, 55, 49, 57, 57, 50, 53, 52, 55, 52, 48, 57, 57, 51]⟩, .string ⟨#[57, 57, 57, 57, 57, 57, 57, 57, 57, 57, 57, 57, 57, 57, 57, 57, 57, 57, 57, 57]⟩, .string ⟨#[34, 97, 47, 98, 34]⟩, .string ⟨#[34, 34]⟩, .string ⟨#[34, 32, 120, 34]⟩, .string ⟨#[59]⟩, .string ⟨#[44]⟩, .string ⟨#[40]⟩, .string ⟨#[41]⟩, .string ⟨#[43]⟩, .string ⟨#[45]⟩, .string ⟨#[42]⟩, .string ⟨#[47]⟩, .string ⟨#[37]⟩, .string ⟨#[60]⟩, .string ⟨#[61]⟩, .string ⟨#[61, 61]⟩, .string ⟨#[97, 98, 99, 100, 101, 102, 103, 104, 105, 106, 107, 108, 109, 110, 111, 112, 113, 114, 115, 116, 117, 118, 119, 120]⟩, .string ⟨#[97, 98, 99, 100, 101, 102, 103, 104, 105, 106, 107, 108, 109, 110, 111, 112, 113, 114, 115, 116, 117, 118, 119, 120, 121]⟩] 9))
      have HSR : Hid (Sr (wx.alloc (.cells #[.string ⟨#[97]⟩, .string ⟨#[98, 57, 95]⟩, .string ⟨#[105, 102]⟩, .string ⟨#[48]⟩, .string ⟨#[48, 48, 55]⟩, .string ⟨#[57, 48, 48, 55, 49, 57, 57, 50, 53, 52, 55, 52, 48, 57, 57, 50]⟩, .string ⟨#[57, 48, 48, 55, 49, 57, 57, 50, 53, 52, 55, 52, 48, 57, 57, 51]⟩, .string ⟨#[57, 57, 57, 57, 57, 57, 57, 57, 57, 57, 57, 57, 57, 57, 57, 57, 57, 57, 57, 57]⟩, .string ⟨#[34, 97, 47, 98, 34]⟩, .string ⟨#[34, 34]⟩, .string ⟨#[34, 32, 120, 34]⟩, .string ⟨#[59]⟩, .string ⟨#[44]⟩, .string ⟨#[40]⟩, .string ⟨#[41]⟩, .string ⟨#[43]⟩, .string ⟨#[45]⟩, .string ⟨#[42]⟩, .string ⟨#[47]⟩, .string ⟨#[37]⟩, .string ⟨#[60]⟩, .string ⟨#[61]⟩, .string ⟨#[61, 61]⟩, .string ⟨#[97, 98, 99, 100, 101, 102, 103, 104, 105, 106, 107, 108, 109, 110, 111, 112, 113, 114, 115, 116, 117, 118, 119, 120]⟩, .string ⟨#[97, 98, 99, 100, 101, 102, 103, 104, 105, 106, 107, 108, 109, 110, 111, 112, 113, 114, 115, 116, 117, 118, 119, 120, 121]⟩] 9)) wx.heap.size W25) := Lib.hid (Sr.new a25)
      have HGX : Hid (g < wx.heap.size) := Lib.hid (by have := HGW.out; have := HGR.out.size; omega)
      go_wp2_with fail
      refine (TOne_any (HTP.out.keep HKA.out) (by have := HAT.out; have := HA.out; have := HWN.out; have := HKR.out; have := HR1.out; omega) HSR.out rfl (by decide) (by decide) (Nat.le_refl _) (by have := HGX.out; omega)).mono ?_
      rintro e w2 ⟨⟨x, hx, rfl⟩, htp2, ho2⟩
      have HX := Lib.hid hx; have HTP2 := Lib.hid htp2; have HO2 := Lib.hid ho2
      obtain ⟨X, hX⟩ : ∃ X, X = st x := ⟨_, rfl⟩
      rw [← hX]
      have HXX := Lib.hid hX
      have HK2 := Lib.hid (kp_alloc w2 (.cells #[.string X] 9))
      have HROW2 : Hid (WRow w (w2.alloc (.cells #[.string X] 9)) (.slice ao wn cap) ws) := Lib.hid (((HROW.out.keep HKA.out).kept (Only.gr ho2) HGW.out).keep HK2.out)
      have HCELL : Hid ((w2.alloc (.cells #[.string X] 9)).cell? ⟨w2.heap.size, 0, none⟩ = some (.string (st x))) := Lib.hid (by rw [← HXX.out]; exact (Blk.new w2 _ _).cell 0 rfl)
      have HTP3 := Lib.hid (htp2.keep HK2.out)
      have HGR3 : Hid (Gr g w (w2.alloc (.cells #[.string X] 9))) := Lib.hid (Gr.trans (Gr.trans (Gr.trans HGR.out (HKA.out.gr g)) (Only.gr ho2)) (HK2.out.gr g))
      have HSZ : Hid (w.heap.size ≤ (w2.alloc (.cells #[.string X] 9)).heap.size) := Lib.hid HGR3.out.size
      clear hx htp2 ho2 hX
      go_wp2_with (at_builtin; refine wpList_str (w := w) rfl (.tmp 11) (.tmp 15) rfl _ ws rfl HROW2.out x w2.heap.size rfl HCELL.out (by have := HKR.out; have := HR1.out; omega) HSZ.out ?_)
      intro v5 w5 hrow5 hg5
      have HROW5 := Lib.hid hrow5
      have HALL5 : Hid (∀ y ∈ ws ++ [x], y ∈ W25) := Lib.hid (fun y hy => by
        rcases List.mem_append.1 hy with h | h
        · exact HALL.out y h
        · rw [List.mem_singleton.1 h]; exact HX.out)
      have hge := HROW2.out.ge
      have HTP5 := Lib.hid (HTP3.out.by hg5 (fun r hr => by have := hge r hr; have := HGW.out; have := HT.out.kp.size; omega))
      have HGR5 := Lib.hid (Gr.by HGR3.out hg5 hge)
      have HL5 : Hid ((ws ++ [x]).length = ws.length + 1) := Lib.hid (by simp)
      clear hrow5 hg5 hge
      go_wp2_with fail
      go_roundw
      case rel => exact ⟨k - 1, ws ++ [x], at2 + 1, vint (by omega), by have := HKR.out; have := HL5.out; omega, HROW5.out, HALL5.out, HTP5.out, by have := HAT.out; have := HL5.out; omega, HGR5.out⟩
      case measure => simp [intOf]; omega
    · have hki : (k : Int) ≤ 0 := by omega
      have HF := Lib.hid (FIN.out (.slice ao wn cap) ws at2 wx HROW.out HALL.out (by have := HKR.out; have := HR1.out; omega) HTP.out (by have := HAT.out; have := HKR.out; have := HR1.out; omega) HGR.out)
      go_wp2_with fail
      try go_ret
      exact HF.out
end By
end Go.Proofs.YtifhbbjalodplaaDoor

