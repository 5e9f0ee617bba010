/- slices.Grow and slices.Concat of files. Conditions: the slices read as the files that are named; together at most a million files. -/
import Derived.Test.YtmkijkaabcgcbaaGreatDoorMRm
import Derived.Test.YtmkijkaabcgcbaaGreatDoorMTk
import Derived.Laws.CopyRow
namespace Go.Proofs.YtmkijkaabcgcbaaGreatDoor
namespace By
open Go.RowKit WireN LexN RevN
set_option linter.unusedVariables false
set_option linter.unusedSimpArgs false

theorem ownF_grown (w : World) (n : Nat) (hn : n ≤ 1000000) :
    OwF w (w.alloc (.cells (Builtin.zeroCells (Value.agg #[.string ⟨#[]⟩, .string ⟨#[]⟩]).cells n ++ Builtin.zeroCells (Value.agg #[.string ⟨#[]⟩, .string ⟨#[]⟩]).cells (grownCap w n 0 55 - n)) 55)).drew
      (.slice (some ⟨w.heap.size, 0, none⟩) 0 (grownCap w n 0 55)) [] := by
  have h1 := grownCap_ge w n 0 55
  have h2 := grownCap_le_maxLen w n 0 55 (by unfold maxLen; omega)
  refine ⟨⟨rfl, .inr ⟨w.heap.size, grownCap w n 0 55, _, rfl, Nat.le_refl _, heap_alloc_new w _, Nat.zero_le _, h2, ?_, rfl⟩⟩, fun f h => by simp at h, fun f h => by simp at h, ?_⟩
  · simp [size_zeroCells, Value.cells]; omega
  · exact Kp.trans (kp_alloc w _) (Kp.drewN _ 1)
set_option maxRecDepth 100000 in
set_option maxHeartbeats 1000000 in
theorem GrowF_any (n : Nat) (hn : n ≤ 1000000) (w : World) :
    Calls Tryz.prog 85 #[.slice none 0 0, .int .i64 n] w fun e w' => ∃ v, e = .returned v ∧ OwF w w' v [] := by
  obtain ⟨i0, hi, hz0, hz1, hz2⟩ := info_parts infoFile
  by_cases h0 : n = 0
  · subst h0
    go_enter Tryz.func85, Tryz.ntmps85
    go_wp2
    go_ret
    exact ⟨_, rfl, OwF.start w⟩
  · have hold : (Builtin.firstCells i0.size 0 (.slice none 0 0)).run Tryz.prog w.drew = .ok ([] : List Value).toArray w.drew := run_firstCells_none w.drew i0.size 0 0 0
    have hrz : ∀ ty, (Builtin.append_ #[26, 3] ty #[.slice none 0 0, .int .i64 (n : Int)]).run Tryz.prog w =
        .ok (.slice (some ⟨w.heap.size, 0, none⟩) n (grownCap w n 0 55)) (w.drew.alloc (.cells (([] : List Value).toArray ++ Builtin.zeroCells (Value.agg #[.string ⟨#[]⟩, .string ⟨#[]⟩]).cells n ++ Builtin.zeroCells (Value.agg #[.string ⟨#[]⟩, .string ⟨#[]⟩]).cells (grownCap w n 0 55 - n)) 55)) := fun ty => by
      have h := Lib.run_append_grow_zeros w 26 3 ty 55 i0 (.agg #[.string ⟨#[]⟩, .string ⟨#[]⟩]) .i64 .i64 Tryz.underlying26 Tryz.underlying3 hi hz0 none 0 0 [] hold n (by omega) (by rw [hz1]; decide) (by omega) (by omega)
        (by rw [hz2]; omega) (by rw [Nat.zero_add, hz2]; exact growslice_fits (by omega) (by omega))
      rw [Nat.zero_add] at h
      exact h
    have FIN := Lib.hid (ownF_grown w n hn)
    have hge := grownCap_ge w n 0 55
    have hle := grownCap_le_maxLen w n 0 55 (by unfold maxLen; omega)
    unfold maxLen at hle
    obtain ⟨G, hG⟩ : ∃ G, G = grownCap w n 0 55 := ⟨_, rfl⟩
    rw [← hG] at hrz FIN hge hle
    have HRZ := Lib.hid hrz
    clear hG hold hz0 hz1 hz2 hi hrz
    go_enter Tryz.func85, Tryz.ntmps85
    go_wp2_with (at_builtin; refine Lib.wpList_append_run _ rfl _ _ _ _ rfl _ _ rfl rfl _ _ (HRZ.out _) ?_)
    go_ret
    exact ⟨_, rfl, FIN.out⟩
set_option maxRecDepth 100000 in
/-- append of files to a row of one's own. -/
theorem wpList_fls {w wx : World} {ops : Array Oper} {rest : List Oper} {o : Oper} {a : Act} {Q : Exit → Act → World → Prop} (hgd : o.guard = none) (s x : Operand)
    (ho : o.op = .call { callee := .builtin .append, args := #[s, x], argTypes := #[26, 26] })
    (v vs : Value) {fs gs : List Fl} (hs : a.eval s = v) (hx : a.eval x = vs) (hown : OwF w wx v fs) (hrw : Rw wx vs gs) (hsum : fs.length + gs.length ≤ 1000000)
    (h : ∀ v' w', OwF w w' v' (fs ++ gs) → wpList Tryz.prog ops Q rest (a.put o.dst v') w') : wpList Tryz.prog ops Q (o :: rest) a wx := by
  obtain ⟨i, hi, hz, hsize, hby⟩ := info_parts infoFile
  obtain ⟨⟨ao, cap, rfl, h2, h3, h4, h5⟩, hl, hsm⟩ := hrw
  cases ao with
  | none =>
    have hgs : gs = [] := by
      rcases h4 with h | ⟨_, _, h, _⟩
      · exact h
      · simp at h
    subst hgs
    obtain rfl := h5 rfl
    exact wpList_append_own_none hgd s x 26 ho w.heap.size 55 i 2 Tryz.underlying26 hi v fs.length (fcel fs) hs hown.owns hx (h v wx (by simpa using hown))
  | some ad =>
    have hlen := fcel_len gs
    refine wpList_append_own_at (P := Tryz.prog) wx hgd s x _ ho w.heap.size _ i _ 2 32 Tryz.underlying26 hi hz hsize hby rfl (by omega) v fs.length (fcel fs) hs hown.owns ad gs.length cap (fcel gs) hx (by omega) ?_ ?_ (by unfold maxLen; omega) (by omega) hown.kp.size ?_
    · intro j u hu
      have hj : j < 2 * gs.length := by rw [← hlen]; exact (List.getElem?_eq_some_iff.1 hu).1
      rcases h4 with rfl | ⟨b, off, e, hc⟩
      · simp at hj
      · injection e with e
        subst e
        rw [Addr_add]
        obtain ⟨f, hf⟩ : ∃ f, gs[j / 2]? = some f := ⟨_, List.getElem?_eq_getElem (by omega)⟩
        obtain ⟨c0, c1⟩ := hc (j / 2) f hf
        obtain ⟨e0, e1⟩ := fcel_at gs (j / 2) f hf
        by_cases hp : j % 2 = 0
        · have hj2 : j / 2 * 2 = j := by omega
          rw [hj2] at c0 e0
          rw [e0] at hu
          rw [c0]
          exact hu
        · have hj2 : j / 2 * 2 + 1 = j := by omega
          rw [hj2] at e1
          rw [Nat.add_assoc, hj2] at c1
          rw [e1] at hu
          rw [c1]
          exact hu
    · intro u hu
      obtain ⟨f, -, hf⟩ := List.mem_flatMap.1 hu
      simp at hf
      rcases hf with rfl | rfl <;> rfl
    · intro v' w' h1 h2 h3 h4
      refine h v' w' ⟨?_, ?_, ?_, Below.grown hown.kp h2 hown.kp.size (fun k hk => ((row_form hown.owns).2 k hk).1)⟩
      · rw [List.length_append, fcel_app]; exact h1
      · intro y hy
        rcases List.mem_append.1 hy with hy | hy
        · exact hown.lt y hy
        · exact hl y hy
      · intro y hy
        rcases List.mem_append.1 hy with hy | hy
        · exact hown.sm y hy
        · exact hsm y hy
/-- A list of slices of files in memory. -/
structure LisF (w : World) (a : Option Addr) (xss : List (List Fl)) : Prop where
  ex : ∃ b, a = some ⟨b, 0, none⟩ ∧ ∀ i, i < xss.length → ∃ v, w.cell? ⟨b, i, none⟩ = some v ∧ Rw w v (xss[i]?.getD [])
theorem LisF.keep {w w' : World} {a : Option Addr} {xss : List (List Fl)} (h : LisF w a xss) (hk : Kp w w') : LisF w' a xss := by
  obtain ⟨b, e, hc⟩ := h.ex
  exact ⟨b, e, fun i hi => by obtain ⟨v, h1, h2⟩ := hc i hi; exact ⟨v, cell_kept h1 hk, h2.keep hk⟩⟩
theorem LisF.two {w : World} {e : TypeId} {v0 v1 : Value} {xs ys : List Fl} (h0 : Rw w v0 xs) (h1 : Rw w v1 ys) : LisF (w.alloc (.cells #[v0, v1] e)) (some ⟨w.heap.size, 0, none⟩) [xs, ys] := by
  have hk := kp_alloc w (.cells #[v0, v1] e)
  have hb := Blk.new w e #[v0, v1]
  refine ⟨_, rfl, fun i hi => ?_⟩
  match i, hi with
  | 0, _ => exact ⟨v0, hb.cell 0 rfl, h0.keep hk⟩
  | 1, _ => exact ⟨v1, hb.cell 1 rfl, h1.keep hk⟩
theorem LisF.three {w : World} {e : TypeId} {v0 v1 v2 : Value} {xs ys zs : List Fl} (h0 : Rw w v0 xs) (h1 : Rw w v1 ys) (h2 : Rw w v2 zs) : LisF (w.alloc (.cells #[v0, v1, v2] e)) (some ⟨w.heap.size, 0, none⟩) [xs, ys, zs] := by
  have hk := kp_alloc w (.cells #[v0, v1, v2] e)
  have hb := Blk.new w e #[v0, v1, v2]
  refine ⟨_, rfl, fun i hi => ?_⟩
  match i, hi with
  | 0, _ => exact ⟨v0, hb.cell 0 rfl, h0.keep hk⟩
  | 1, _ => exact ⟨v1, hb.cell 1 rfl, h1.keep hk⟩
  | 2, _ => exact ⟨v2, hb.cell 2 rfl, h2.keep hk⟩
def catF (xss : List (List Fl)) (k : Nat) : List Fl := (xss.take k).flatten
theorem catF_succ {xss : List (List Fl)} {k : Nat} (h : k < xss.length) : catF xss (k + 1) = catF xss k ++ xss[k]?.getD [] := by
  unfold catF
  rw [List.take_add_one, List.getElem?_eq_getElem h, List.flatten_append]
  simp only [Option.toList_some, List.flatten_cons, List.flatten_nil, List.append_nil, Option.getD_some]
theorem catF_len_le (xss : List (List Fl)) (k : Nat) : (catF xss k).length ≤ xss.flatten.length := by
  have h : xss.flatten = catF xss k ++ (xss.drop k).flatten := by
    unfold catF
    rw [← List.flatten_append, List.take_append_drop]
  rw [h, List.length_append]
  omega
theorem catF_all {xss : List (List Fl)} {k : Nat} (h : xss.length ≤ k) : catF xss k = xss.flatten := by unfold catF; rw [List.take_of_length_le h]
set_option maxRecDepth 100000 in
set_option maxHeartbeats 1000000 in
theorem ConcatF_any {a : Option Addr} {xss : List (List Fl)} {n cap : Nat} {w : World} (hls : LisF w a xss) (hn : xss.length = n) (hn3 : n ≤ 1000) (hsum : xss.flatten.length ≤ 1000000) :
    Calls Tryz.prog 67 #[.slice a n cap] w fun e w' => ∃ v, e = .returned v ∧ OwF w w' v xss.flatten := by
  obtain ⟨b, rfl, hcell⟩ := hls.ex
  rw [hn] at hcell
  have HC := Lib.hid hcell; have HN := Lib.hid hn
  clear hcell hls hn
  go_enter Tryz.func67, Tryz.ntmps67
  go_wp2_with fail
  go_loop [11, 3] (fun i s => ∃ k : Nat, k ≤ n ∧ i = .int .i64 k ∧ s = .int .i64 ((catF xss k).length : Nat)) (fun i _ => n - (intOf i).toNat)
  case atStart => exact ⟨0, Nat.zero_le _, rfl, rfl⟩
  case round =>
    obtain ⟨k, hk, rfl, rfl⟩ := hrel
    by_cases hkn : k < n
    · obtain ⟨v, hv, hsv⟩ := HC.out k hkn
      obtain ⟨ao, cp, rfl, hc, hm, hno⟩ := hsv.open3
      have hs2 := catF_succ (xss := xss) (k := k) (by have := HN.out; omega)
      have hle := catF_len_le xss (k + 1)
      have hl2 := congrArg List.length hs2
      rw [List.length_append] at hl2
      rw [hl2] at hle
      have HL2 := Lib.hid hl2
      obtain ⟨L, hL⟩ : ∃ L, L = (xss[k]?.getD []).length := ⟨_, rfl⟩
      obtain ⟨M, hM⟩ : ∃ M, M = (catF xss k).length := ⟨_, rfl⟩
      rw [← hL, ← hM] at HL2 hle
      rw [← hL] at hv
      rw [← hM]
      clear hs2 hl2 hL hM hno hm hc hsv
      go_wp2_with fail
      go_round
      case rel => exact ⟨k + 1, by omega, by go_num, by rw [HL2.out]; go_num⟩
      case measure => simp [intOf]; omega
    · have hall := catF_all (xss := xss) (k := k) (by have := HN.out; omega)
      rw [hall]
      obtain ⟨S, hS⟩ : ∃ S, S = xss.flatten.length := ⟨_, rfl⟩
      rw [← hS] at hsum ⊢
      have HS := Lib.hid hS
      clear hall hS
      go_wp2_with fail
      refine (GrowF_any S hsum _).mono ?_
      rintro e w1 ⟨v1, rfl, hown⟩
      have HOWN := Lib.hid hown; clear hown
      go_wp2_with fail
      go_loopw [27, 6] (fun i v wy => ∃ j : Nat, j ≤ n ∧ i = .int .i64 j ∧ OwF w wy v (catF xss j)) (fun i _ _ => n - (intOf i).toNat)
      case atStart => exact ⟨0, Nat.zero_le _, rfl, HOWN.out⟩
      case round =>
        obtain ⟨j, hj, rfl, hown⟩ := hrel
        rename World => wx
        have HO := Lib.hid hown; clear hown
        by_cases hjn : j < n
        · obtain ⟨v, hv, hsv⟩ := HC.out j hjn
          have hv1 := (HO.out.kp.cell (World.block_lt_of_cell? w _ hv)).trans hv
          have HSV := Lib.hid (hsv.keep HO.out.kp)
          obtain ⟨ao, cp, rfl, hc, hm, hno⟩ := hsv.open3
          obtain ⟨⟨ao', ln', cp', hfo⟩, -⟩ := row_form HO.out.owns
          have HCS := Lib.hid (catF_succ (xss := xss) (k := j) (by have := HN.out; omega))
          have HLE := Lib.hid (catF_len_le xss (j + 1))
          clear hv hsv hc hm hno
          subst hfo
          go_wp2_with (at_builtin; refine wpList_fls (w := w) rfl (.tmp 31) (.tmp 32) rfl _ _ rfl rfl HO.out HSV.out (by have h1 := HLE.out; rw [HCS.out, List.length_append] at h1; have := HS.out; omega) ?_)
          intro v' w2 hown2
          rw [← HCS.out] at hown2
          have HOWN2 := Lib.hid hown2; clear hown2
          go_wp2_with fail
          go_roundw
          case rel => exact ⟨j + 1, by omega, by go_num, HOWN2.out⟩
          case measure => simp [intOf]; omega
        · have fin := HO.out
          rw [catF_all (xss := xss) (k := j) (by have := HN.out; omega)] at fin
          have FIN := Lib.hid fin; clear fin
          go_wp2_with fail
          go_ret
          exact ⟨_, rfl, FIN.out⟩
end By
end Go.Proofs.YtmkijkaabcgcbaaGreatDoor

/- The program's joined: files in memory of their own. Conditions: the slices read as the files that are named; together at most a million files of at most a million bytes. -/
namespace Go.Proofs.YtmkijkaabcgcbaaGreatDoor
namespace By
open Go.RowKit WireN LexN RevN
set_option linter.unusedVariables false
set_option linter.unusedSimpArgs false

/-- Storing what is there changes nothing. -/
theorem Blk.self {w : World} {g i : Nat} {t : TypeId} {cs : Array Value} {v : Value} (h : Blk w g t cs) (hv : cs[i]? = some v) : w.setCell ⟨g, i, none⟩ v = w := by
  have hc : cs.setIfInBounds i v = cs := by
    obtain ⟨hi, he⟩ := Array.getElem?_eq_some_iff.1 hv
    rw [← he]
    simp [Array.setIfInBounds, hi]
  rw [setCell_eq_setRow w g i cs t (0, 0) v h, hc]
  exact setRow_self w g cs t (0, 0) h
/-- The block of a row of one's own. -/
theorem OwF.blk {w wr : World} {v : Value} {fs : List Fl} (h : OwF w wr v fs) (hn : 0 < fs.length) : ∃ g cap cur, v = .slice (some ⟨g, 0, none⟩) fs.length cap ∧ w.heap.size ≤ g ∧ fs.length ≤ cap ∧ Blk wr g 55 cur ∧
    ∀ (j : Nat) (f : Fl), fs[j]? = some f → cur[j * 2]? = some (.string (st f.1)) ∧ cur[j * 2 + 1]? = some (.string (st f.2)) := by
  rcases h.owns.2 with ⟨_, h0⟩ | ⟨g, cap, cur, rfl, hb, hg, hnc, hcm, hsz, htake⟩
  · omega
  · refine ⟨g, cap, cur, rfl, hb, hnc, hg, fun j f hf => ?_⟩
    have hj : j < fs.length := (List.getElem?_eq_some_iff.1 hf).1
    obtain ⟨h1, h2⟩ := fcel_at fs j f hf
    constructor
    · rw [← htake, List.getElem?_take, if_pos (by omega)] at h1
      simpa using h1
    · rw [← htake, List.getElem?_take, if_pos (by omega)] at h2
      simpa using h2
theorem Clone_st (l : List Nat) (hl : l.length ≤ 1000000) (w : World) : Calls Tryz.prog 38 #[.string (st l)] w fun e w' => e = .returned (.string (st l)) ∧ Kp w w' := by
  have HC := Lib.hid (Tryz.stringslite_Clone (st l) w (by rw [st_size]; omega))
  obtain ⟨S, hS⟩ : ∃ S, S = st l := ⟨_, rfl⟩
  rw [← hS] at HC ⊢
  clear hS
  go_enter Tryz.func38, Tryz.ntmps38
  go_wp2_with fail
  refine HC.out.mono ?_
  rintro e w1 ⟨rfl, hk⟩
  have HK := Lib.hid hk
  clear hk
  go_wp2_with fail
  go_ret
  exact ⟨rfl, HK.out⟩
set_option maxRecDepth 100000 in
set_option maxHeartbeats 4000000 in
theorem joinF_any {a : Option Addr} {xss : List (List Fl)} {n cap : Nat} {w : World} (hls : LisF w a xss) (hn : xss.length = n) (hn3 : n ≤ 1000) (hsum : xss.flatten.length ≤ 1000000) (hsz : ∀ f ∈ xss.flatten, f.1.length ≤ 1000000 ∧ f.2.length ≤ 1000000) :
    Calls Tryz.prog 41 #[.slice a n cap] w fun e w' => ∃ v, e = .returned (.agg #[v]) ∧ Rw w' v xss.flatten ∧ (∀ b, v.ownBlock = some b → w.heap.size ≤ b) ∧ Kp w w' := by
  obtain ⟨rb, hrb⟩ : ∃ rb, rb = w.heap.size := ⟨_, rfl⟩
  obtain ⟨W0, hW0⟩ : ∃ W0, W0 = w.alloc (.cells #[.slice none 0 0] 28) := ⟨_, rfl⟩
  have HK0 : Hid (Kp w W0) := Lib.hid (by rw [hW0]; exact kp_alloc w _)
  have RB0 : Hid (Blk W0 rb 28 #[.slice none 0 0]) := Lib.hid (by rw [hW0, hrb]; exact Blk.new w _ _)
  have HW0 := Lib.hid hW0; have ERB := Lib.hid hrb
  have GR : Hid (w.heap.size ≤ rb) := Lib.hid (by omega)
  have HC := Lib.hid (ConcatF_any (cap := cap) (hls.keep HK0.out) hn hn3 hsum)
  obtain ⟨fs, hfs⟩ : ∃ fs, fs = xss.flatten := ⟨_, rfl⟩
  rw [← hfs] at HC hsum hsz ⊢
  have HSZ := Lib.hid hsz; have HSUM := Lib.hid hsum
  clear hls hn hn3 hfs hrb hW0 hsz
  go_enter Tryz.func41, Tryz.ntmps41
  go_wp2_with fail
  rw [← HW0.out, ← ERB.out]
  refine HC.out.mono ?_
  rintro e w1 ⟨v, rfl, hown⟩
  have HO := Lib.hid hown
  have HRW := Lib.hid hown.rw
  obtain ⟨ov, cv, hv, hcv, -, -⟩ := hown.rw.open3
  subst hv
  obtain ⟨m, hm⟩ : ∃ m, m = fs.length := ⟨_, rfl⟩
  rw [← hm] at hown HO HRW hcv hsum ⊢
  have HM := Lib.hid hm
  have hmi : (m : Int) ≤ 1000000 := by omega
  have hcvi : (m : Int) ≤ (cv : Int) := by omega
  have RB1 := Lib.hid (RB0.out.keep hown.kp)
  have HK1 := Lib.hid (Kp.trans HK0.out hown.kp)
  have HUB : Hid (∀ b, (Value.slice ov m cv).ownBlock = some b → b ≠ rb) := Lib.hid (fun b hb e => by have := ((row_form hown.owns).2 b hb).1; have := RB0.out.lt; omega)
  have HNW : Hid (∀ b, (Value.slice ov m cv).ownBlock = some b → w.heap.size ≤ b) := Lib.hid (fun b hb => by have := ((row_form hown.owns).2 b hb).1; have := HK0.out.size; omega)
  clear hown hm hcv hsum
  go_wp2_with fail
  go_loopw [10] (fun i wr => ∃ k : Nat, i = .int .i64 k ∧ k ≤ m ∧ Kp w1 wr) (fun i _ => m - (intOf i).toNat)
  case atStart => exact ⟨0, rfl, Nat.zero_le _, Kp.refl _⟩
  case round =>
    obtain ⟨k, rfl, hk, hkp⟩ := hrel
    rename World => wx
    have HKP := Lib.hid hkp
    clear hkp
    by_cases hkm : k < m
    · obtain ⟨f, hf⟩ : ∃ f, fs[k]? = some f := ⟨_, List.getElem?_eq_getElem (by have := HM.out; omega)⟩
      obtain ⟨g, cg, cur, hv, -, -, hbk, hcur⟩ := HO.out.blk (by have := HM.out; omega)
      simp only [Value.slice.injEq] at hv
      obtain ⟨rfl, -, rfl⟩ := hv
      obtain ⟨u0, u1⟩ := hcur k f hf
      have hbx := hbk.keep HKP.out
      have c0 := hbx.cell _ u0; have c1 := hbx.cell _ u1
      have hfz := HSZ.out f (List.mem_of_getElem? hf)
      have CC : Hid (∀ S : ByteArray, (S = st f.1 ∨ S = st f.2) → ∀ W, Calls Tryz.prog 38 #[.string S] W fun e w' => e = .returned (.string S) ∧ Kp W w') := Lib.hid (fun S h W => by
        rcases h with rfl | rfl
        · exact Clone_st f.1 hfz.1 W
        · exact Clone_st f.2 hfz.2 W)
      obtain ⟨WA, hWA⟩ : ∃ WA, WA = wx.alloc (.cells #[.string (st f.1), .string (st f.2)] 55) := ⟨_, rfl⟩
      have HKA : Hid (Kp wx WA) := Lib.hid (by rw [hWA]; exact kp_alloc wx _)
      have HWA := Lib.hid hWA
      have hbA : Blk WA wx.heap.size 55 #[.string (st f.1), .string (st f.2)] := by rw [hWA]; exact Blk.new _ _ _
      have hgA := hbx.keep HKA.out
      have FACT : Hid (∀ W, Kp WA W → W.cell? ⟨wx.heap.size, 0, none⟩ = some (.string (st f.1)) ∧ W.cell? ⟨wx.heap.size, 1, none⟩ = some (.string (st f.2)) ∧ W.cell? ⟨g, k * 2, none⟩ = some (.string (st f.1)) ∧ W.cell? ⟨g, k * 2 + 1, none⟩ = some (.string (st f.2)) ∧ W.frozen? ⟨g, k * 2, none⟩ = false ∧ W.frozen? ⟨g, k * 2 + 1, none⟩ = false) := Lib.hid (fun W hk =>
        ⟨(hbA.keep hk).cell 0 rfl, (hbA.keep hk).cell 1 rfl, (hgA.keep hk).cell _ u0, (hgA.keep hk).cell _ u1, (hgA.keep hk).free _, (hgA.keep hk).free _⟩)
      have SELF : Hid (∀ W, Kp WA W → (W.setCell ⟨g, k * 2, none⟩ (.string (st f.1))).setCell ⟨g, k * 2 + 1, none⟩ (.string (st f.2)) = W) := Lib.hid (fun W hk => by
        rw [(hgA.keep hk).self u0, (hgA.keep hk).self u1])
      obtain ⟨S1, hS1⟩ : ∃ S, S = st f.1 := ⟨_, rfl⟩
      obtain ⟨S2, hS2⟩ : ∃ S, S = st f.2 := ⟨_, rfl⟩
      rw [← hS1, ← hS2] at HWA FACT SELF CC
      rw [← hS1] at c0
      rw [← hS2] at c1
      clear hf hbk hcur u0 u1 hbx hfz hWA hbA hgA hS1 hS2
      go_wp2_with fail
      rw [← HWA.out]
      clear c0 c1
      go_region_held3 (fun w' => w'.cell? ⟨wx.heap.size, 0, none⟩ = some (.string S1) ∧ w'.cell? ⟨wx.heap.size, 1, none⟩ = some (.string S2) ∧ w'.cell? ⟨g, k * 2, none⟩ = some (.string S1) ∧ w'.cell? ⟨g, k * 2 + 1, none⟩ = some (.string S2) ∧ w'.frozen? ⟨g, k * 2, none⟩ = false ∧ w'.frozen? ⟨g, k * 2 + 1, none⟩ = false)
        (first
          | exact FACT.out _ (Kp.refl _)
          | exact FACT.out _ (kp_drew _)
          | exact FACT.out _ hk3
          | exact FACT.out _ hk2
          | (rw [SELF.out _ hk3]; exact FACT.out _ hk3)
          | fail "no keep")
        (first
          | (go_at_call 38; have hk3q := hk2; refine (CC.out _ (by first | exact .inl rfl | exact .inr rfl) _).mono ?_; rintro e w3 ⟨rfl, hk3'⟩; have hk3 := Kp.trans hk2 hk3')
          | (go_at_call 38; refine (CC.out _ (by first | exact .inl rfl | exact .inr rfl) _).mono ?_; rintro e w2 ⟨rfl, hk2'⟩; have hk2 := Kp.trans (kp_drew WA) hk2')
          | fail "no arm")
      all_goals
        rw [SELF.out _ hk3]
        have HK3 := Lib.hid hk3
        clear hk3 hk2 hk2' hk3' hk3q
        go_wp2_with fail
        go_roundw
        case rel => exact ⟨k + 1, by go_num, by omega, Kp.trans HKP.out (Kp.trans HKA.out HK3.out)⟩
        case measure => simp [intOf]; omega
    · obtain rfl : k = m := by omega
      have rbx := RB1.out.keep HKP.out
      have r0 := rbx.cell 0 rfl; have f0 := rbx.free 0
      have RBX := Lib.hid rbx
      have HRX := Lib.hid (HRW.out.keep HKP.out)
      have HKX := Lib.hid (Kp.trans HK1.out HKP.out)
      clear rbx
      go_wp2_with fail
      obtain ⟨w6, hw6⟩ : ∃ w6, w6 = wx.setCell ⟨rb, 0, none⟩ (.slice ov k cv) := ⟨_, rfl⟩
      rw [← hw6]
      have o6 : Only rb wx w6 := by rw [hw6]; exact (Only.refl rb wx).set 0 _
      have rb6 : Blk w6 rb 28 #[.slice ov k cv] := by rw [hw6]; exact RBX.out.set 0 _
      have e0 := rb6.cell 0 rfl
      exact bodyPost_ret (v := .agg #[.slice ov k cv]) (by simp [results, Tryz.results41, go_sem, e0]) rfl ⟨_, rfl, HRX.out.only o6 HUB.out, HNW.out, Only.kp HKX.out o6 GR.out⟩
end By
end Go.Proofs.YtmkijkaabcgcbaaGreatDoor
