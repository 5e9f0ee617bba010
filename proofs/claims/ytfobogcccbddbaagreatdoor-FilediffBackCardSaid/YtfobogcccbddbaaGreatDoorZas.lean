/- slices.ContainsFunc with the program's test of a change; the rows of paths that are taken and put; whether a path comes twice. Condition: at most a thousand changes. -/
import Derived.Test.YtfobogcccbddbaaGreatDoorZar
import Derived.Test.YtfobogcccbddbaaGreatDoorZba
import Derived.Test.YtfobogcccbddbaaGreatDoorZab
import Derived.Test.YtfobogcccbddbaaGreatDoorSrt
import Derived.Test.YtfobogcccbddbaaGreatDoorShelf
import Derived.Test.YtfobogcccbddbaaGreatDoorZan
import Derived.Test.YtfobogcccbddbaaGreatDoorZao
namespace Go.Proofs.YtfobogcccbddbaaGreatDoor
namespace By
open Go.RowKit WireN LexN RevN FdN CtN
set_option linter.unusedVariables false
set_option linter.unusedSimpArgs false

set_option maxRecDepth 100000 in
set_option maxHeartbeats 2000000 in
theorem IndexFunc_w {w : World} {v : Value} {l : List Ch} (h : Cw w v l) (hl : l.length ≤ 1000) :
    Calls Tryz.prog 92 #[v, .func (.func 67) #[] #[]] w fun e w' => (∃ r : Int, e = .returned (.int .i64 r) ∧ decide (0 ≤ r) = l.any (fun x => !wel x)) ∧ Kp w w' := by
  obtain ⟨Q, hQ⟩ : ∃ Q : Ending → World → Prop, Q = fun e w' => (∃ r : Int, e = .returned (.int .i64 r) ∧ decide (0 ≤ r) = l.any (fun x => !wel x)) ∧ Kp w w' := ⟨_, rfl⟩
  rw [← hQ]
  have FIN : Hid (∀ (w' : World) (r : Int), decide (0 ≤ r) = l.any (fun x => !wel x) → Kp w w' → Q (.returned (.int .i64 r)) w') := Lib.hid (by
    intro w' r h1 h2
    rw [hQ]
    exact ⟨⟨r, rfl, h1⟩, h2⟩)
  obtain ⟨ao, cap, rfl, hcap, -, -⟩ := h.open3
  obtain ⟨n, hn⟩ : ∃ n, n = l.length := ⟨_, rfl⟩
  rw [← hn] at hcap h hl ⊢
  have HT := Lib.hid h; have HN := Lib.hid hn
  have i1 : (n : Int) ≤ (cap : Int) := by omega
  have i2 : (n : Int) ≤ 1000 := by omega
  clear h hcap hQ hn hl
  go_enter Tryz.func92, Tryz.ntmps92
  go_wp2_with fail
  go_loopw [8] (fun iv wy => ∃ (k : Nat), k ≤ n ∧ iv = .int .i64 k ∧ Kp w wy ∧ Hid (∀ x ∈ l.take k, wel x = true)) (fun iv _ => n - (intOf iv).toNat)
  case atStart => exact ⟨0, Nat.zero_le _, rfl, Kp.refl _, Lib.hid (by simp)⟩
  case round =>
    obtain ⟨k, hk, rfl, hkp, HNO⟩ := hrel
    have HKP := Lib.hid hkp
    clear hkp
    rename World => wy
    by_cases hil : k < n
    · obtain ⟨x, hx⟩ : ∃ x, l[k]? = some x := ⟨_, List.getElem?_eq_getElem (by have := HN.out; omega)⟩
      obtain ⟨g, o, rfl, hcell⟩ := (HT.out.keep HKP.out).cell (by omega)
      obtain ⟨d0, d1, d2, d3⟩ := hcell k x hx
      have j1 : (k : Int) < (n : Int) := by omega
      have HC := Lib.hid (isWrong_any (HT.out.ok x (List.mem_of_getElem? hx)) wy)
      obtain ⟨c, hc⟩ : ∃ c, c = wel x := ⟨_, rfl⟩
      obtain ⟨X1, hX1⟩ : ∃ S, S = st x.2.1 := ⟨_, rfl⟩
      obtain ⟨X2, hX2⟩ : ∃ S, S = st x.2.2.1 := ⟨_, rfl⟩
      obtain ⟨X3, hX3⟩ : ∃ S, S = st x.2.2.2 := ⟨_, rfl⟩
      rw [← hX1, ← hX2, ← hX3, ← hc] at HC
      rw [← hX1] at d1
      rw [← hX2] at d2
      rw [← hX3] at d3
      have HCC := Lib.hid hc; have HX := Lib.hid hx
      clear hcell hx hc hX1 hX2 hX3
      cases c with
      | false =>
        have HE : Hid (decide ((0 : Int) ≤ (k : Int)) = l.any (fun x => !wel x)) := Lib.hid (by
          rw [decide_eq_true (by omega)]
          exact (List.any_eq_true.2 ⟨x, List.mem_of_getElem? HX.out, by rw [← HCC.out]; rfl⟩).symm)
        go_wp2_with fail
        refine HC.out.mono ?_
        rintro e w4 ⟨rfl, hk4⟩
        have K4 := Lib.hid (HKP.out.trans hk4)
        clear hk4 d0 d1 d2 d3
        go_wp2_with fail
        exact FIN.out _ _ HE.out K4.out
      | true =>
        have HNX : Hid (∀ y ∈ l.take (k + 1), wel y = true) := Lib.hid (by
          rw [List.take_add_one, HX.out]
          intro y hy
          rcases List.mem_append.1 hy with hy | hy
          · exact HNO.out y hy
          · obtain rfl : y = x := by simpa using hy
            exact HCC.out.symm)
        go_wp2_with fail
        refine HC.out.mono ?_
        rintro e w4 ⟨rfl, hk4⟩
        have K4 := Lib.hid (HKP.out.trans hk4)
        clear hk4 d0 d1 d2 d3
        go_wp2_with fail
        go_roundw
        case rel => exact ⟨k + 1, by omega, vint (by omega), K4.out, HNX⟩
        case measure => simp [intOf]; omega
    · have HE : Hid (decide ((0 : Int) ≤ -1) = l.any (fun x => !wel x)) := Lib.hid (by
        have h := HNO.out
        obtain rfl : k = n := by omega
        rw [List.take_of_length_le (by have := HN.out; omega)] at h
        have h2 : l.any (fun x => !wel x) = false := List.any_eq_false.2 (fun x hx => by rw [h x hx]; simp)
        rw [h2]
        decide)
      go_wp2_with fail
      exact FIN.out _ _ HE.out HKP.out
set_option maxRecDepth 100000 in
theorem ContainsFunc_w {w : World} {v : Value} {l : List Ch} (h : Cw w v l) (hl : l.length ≤ 1000) :
    Calls Tryz.prog 66 #[v, .func (.func 67) #[] #[]] w fun e w' => e = .returned (.bool (l.any fun x => !wel x)) ∧ Kp w w' := by
  have HI := Lib.hid (IndexFunc_w h hl)
  obtain ⟨c, hc⟩ : ∃ c, c = l.any (fun x => !wel x) := ⟨_, rfl⟩
  rw [← hc] at HI ⊢
  clear hc h hl
  go_enter Tryz.func66, Tryz.ntmps66
  go_wp2_with fail
  refine HI.out.mono ?_
  rintro e w1 ⟨⟨r, rfl, hr⟩, hk⟩
  have HK := Lib.hid hk
  clear hk
  cases c with
  | true =>
    rw [decide_eq_true_eq] at hr
    have q : decide (0 ≤ r) = true := decide_eq_true hr
    go_wp2_with fail
    go_ret
    exact ⟨rfl, HK.out⟩
  | false =>
    rw [decide_eq_false_iff_not] at hr
    have q : decide (0 ≤ r) = false := decide_eq_false hr
    clear hr
    go_wp2_with fail
    go_ret
    exact ⟨rfl, HK.out⟩
set_option maxRecDepth 100000 in
set_option maxHeartbeats 4000000 in
theorem placed_any {w : World} {v : Value} {l : List Ch} (h : Cw w v l) (hl : l.length ≤ 1000) :
    Calls Tryz.prog 68 #[v] w fun e w' => ∃ u, e = .returned u ∧ OwT w w' u (ptL l) := by
  obtain ⟨Q, hQ⟩ : ∃ Q : Ending → World → Prop, Q = fun e w' => ∃ u, e = .returned u ∧ OwT w w' u (ptL l) := ⟨_, rfl⟩
  rw [← hQ]
  have FIN : Hid (∀ (w' : World) (u : Value), OwT w w' u (ptL l) → Q (.returned u) w') := Lib.hid (by
    intro w' u h1
    rw [hQ]
    exact ⟨u, rfl, h1⟩)
  obtain ⟨ao, cap, rfl, hcap, -, -⟩ := h.open3
  obtain ⟨n, hn⟩ : ∃ n, n = l.length := ⟨_, rfl⟩
  rw [← hn] at hcap h hl ⊢
  have HT := Lib.hid h; have HN := Lib.hid hn
  have i1 : (n : Int) ≤ (cap : Int) := by omega
  have i2 : (n : Int) ≤ 1000 := by omega
  clear h hcap hQ hn hl
  go_enter Tryz.func68, Tryz.ntmps68
  go_wp2_with fail
  go_loopw [2, 7] (fun uv iv wy => ∃ (k : Nat) (u : Value), k ≤ n ∧ iv = .int .i64 k ∧ uv = u ∧ OwT w wy u (ptL (l.take k))) (fun _ iv _ => n - (intOf iv).toNat)
  case atStart => exact ⟨0, _, Nat.zero_le _, rfl, rfl, OwT.start w⟩
  case round =>
    obtain ⟨k, u, hk, rfl, rfl, ho⟩ := hrel
    have HO := Lib.hid ho
    obtain ⟨⟨u1, u2, u3, rfl⟩, -⟩ := row_frc ho.owns
    clear ho
    rename World => wy
    by_cases hil : k < n
    · obtain ⟨x, hx⟩ : ∃ x, l[k]? = some x := ⟨_, List.getElem?_eq_getElem (by have := HN.out; omega)⟩
      obtain ⟨g, o, rfl, hcell⟩ := (HT.out.keep HO.out.kp).cell (by omega)
      obtain ⟨d0, d1, d2, d3⟩ := hcell k x hx
      have hxo := HT.out.ok x (List.mem_of_getElem? hx)
      have j1 : (k : Int) < (n : Int) := by omega
      obtain ⟨X1, hX1⟩ : ∃ S, S = st x.2.1 := ⟨_, rfl⟩
      obtain ⟨X2, hX2⟩ : ∃ S, S = st x.2.2.1 := ⟨_, rfl⟩
      obtain ⟨X3, hX3⟩ : ∃ S, S = st x.2.2.2 := ⟨_, rfl⟩
      obtain ⟨W3, hW3⟩ : ∃ W, W = wy.alloc (.cells #[.int .i64 x.1, .string X1, .string X2, .string X3] 50) := ⟨_, rfl⟩
      have hk3 : Kp wy W3 := by rw [hW3]; exact kp_alloc _ _
      obtain ⟨fb, hfb⟩ : ∃ b, b = wy.heap.size := ⟨_, rfl⟩
      have HFB : Hid (Blk W3 fb 50 #[.int .i64 x.1, .string X1, .string X2, .string X3]) := Lib.hid (by rw [hW3, hfb]; exact Blk.new _ _ _)
      have HC := Lib.hid (puts_any x W3)
      obtain ⟨c, hc⟩ : ∃ c, c = pts x := ⟨_, rfl⟩
      rw [← hX1, ← hX2, ← hX3, ← hc] at HC
      rw [← hX1] at d1
      rw [← hX2] at d2
      rw [← hX3] at d3
      have HST := Lib.hid (ptL_snoc hx)
      rw [← hc] at HST
      have HTX : Hid (TxOk x.2.1) := Lib.hid ⟨hxo.2.1.1, hxo.2.2.1⟩
      have HLN : Hid ((ptL (l.take k)).length ≤ 1000000) := Lib.hid (by have := ptL_len (l.take k); have := List.length_take_le k l; omega)
      have HX1 := Lib.hid hX1
      have HO3 := Lib.hid (HO.out.keep hk3)
      have HW3 := Lib.hid hW3; have HFE := Lib.hid hfb
      clear hcell hx hc hX1 hX2 hX3 hxo hk3 hW3 hfb
      cases c with
      | false =>
        go_wp2_with fail
        rw [← HW3.out, ← HFE.out]
        refine HC.out.mono ?_
        rintro e w4 ⟨rfl, hk4⟩
        have HX : Hid (OwT w w4 (.slice u1 u2 u3) (ptL (l.take (k + 1)))) := Lib.hid (by
          rw [HST.out, if_neg (by simp), List.append_nil]
          exact HO3.out.keep hk4)
        clear hk4 d0 d1 d2 d3
        go_wp2_with fail
        go_roundw
        case rel => exact ⟨k + 1, _, by omega, vint (by omega), rfl, HX.out⟩
        case measure => simp [intOf]; omega
      | true =>
        go_wp2_with fail
        rw [← HW3.out, ← HFE.out]
        refine HC.out.mono ?_
        rintro e w4 ⟨rfl, hk4⟩
        have e1 := (HFB.out.keep hk4).cell 1 rfl
        obtain ⟨W5, hW5⟩ : ∃ W, W = w4.alloc (.cells #[.string X1] 9) := ⟨_, rfl⟩
        have HNB : Hid (Blk W5 w4.heap.size 9 #[.string (st x.2.1)]) := Lib.hid (by rw [hW5, ← HX1.out]; exact Blk.new _ _ _)
        have HO5 : Hid (OwT w W5 (.slice u1 u2 u3) (ptL (l.take k))) := Lib.hid (by rw [hW5]; exact (HO3.out.keep hk4).keep (kp_alloc _ _))
        rw [hW5] at HNB HO5
        clear hk4 d0 d1 d2 d3 hW5
        go_wp2_with (at_builtin; refine wpList_tx (w := w) rfl (.tmp 13) (.tmp 16) rfl _ rfl HO5.out HLN.out x.2.1 HTX.out w4.heap.size rfl HNB.out ?_)
        intro v6 w6 ho6 hg6 hv6
        have HX : Hid (OwT w w6 v6 (ptL (l.take (k + 1)))) := Lib.hid (by
          rw [HST.out, if_pos (by simp)]
          exact ho6)
        clear ho6 hg6 hv6 e1
        go_wp2_with fail
        go_roundw
        case rel => exact ⟨k + 1, _, by omega, vint (by omega), rfl, HX.out⟩
        case measure => simp [intOf]; omega
    · have HF : Hid (OwT w wy (.slice u1 u2 u3) (ptL l)) := Lib.hid (by
        have h := HO.out
        obtain rfl : k = n := by omega
        rwa [List.take_of_length_le (by have := HN.out; omega)] at h)
      go_wp2_with fail
      exact FIN.out _ _ HF.out
/-- Whether the number of different texts tells that one comes twice. -/
theorem nodup_snoc {ts : List (List Nat)} {k : Nat} {x : List Nat} (h : ts[k]? = some x) : (ts.take (k + 1)).Nodup ↔ (ts.take k).Nodup ∧ x ∉ ts.take k := by
  rw [List.take_add_one, h]
  show ((ts.take k) ++ [x]).Nodup ↔ _
  rw [List.nodup_append]
  constructor
  · rintro ⟨h1, -, h2⟩
    exact ⟨h1, fun hx => h2 x hx x (by simp) rfl⟩
  · rintro ⟨h1, h2⟩
    exact ⟨h1, by simp, fun a ha b hb e => by
      have : b = x := by simpa using hb
      rw [e, this] at ha
      exact h2 ha⟩
def smv (ts : List (List Nat)) : List Nat → Option Value := fun p => if p ∈ ts then some (.bool true) else none
theorem underSB : Tryz.prog.underlying 121 = some (.map 9 4) := Tryz.underlying121
/-- A set of the texts so far, and how many there are. -/
structure SS (w : World) (b : Nat) (ts : List (List Nat)) (k sz : Nat) : Prop where
  mv : MV w b k sz (smv (ts.take k))
  le : sz ≤ k
  nd : sz = k ↔ (ts.take k).Nodup
theorem SS.next {w w' : World} {b : Nat} {ts : List (List Nat)} {k sz : Nat} (h : SS w b ts k sz) {x : List Nat} (hx : ts[k]? = some x)
    (hm : MV w' b (k + 1) (if (smv (ts.take k) x).isSome = true then sz else sz + 1) (mset (smv (ts.take k)) x (.bool true))) : ∃ sz', SS w' b ts (k + 1) sz' := by
  have e : mset (smv (ts.take k)) x (.bool true) = smv (ts.take (k + 1)) := by
    funext q
    unfold mset smv
    rw [List.take_add_one, hx]
    by_cases e : q = x
    · simp [e]
    · simp [e]
  rw [e] at hm
  have hs : (smv (ts.take k) x).isSome = decide (x ∈ ts.take k) := by
    unfold smv
    by_cases e : x ∈ ts.take k <;> simp [e]
  rw [hs] at hm
  by_cases hin : x ∈ ts.take k
  · rw [decide_eq_true hin, if_pos rfl] at hm
    refine ⟨sz, hm, by have := h.le; omega, ?_⟩
    rw [nodup_snoc hx]
    have := h.le
    exact ⟨fun h => by omega, fun h => absurd hin h.2⟩
  · rw [decide_eq_false hin, if_neg (by simp)] at hm
    refine ⟨sz + 1, hm, by have := h.le; omega, ?_⟩
    rw [nodup_snoc hx, ← h.nd]
    exact ⟨fun h => ⟨by omega, hin⟩, fun h => by omega⟩
theorem wpList_ss {w : World} {ops : Array Oper} {rest : List Oper} {o : Oper} {a : Act} {Q : Exit → Act → World → Prop} (hg : o.guard = none) (m x v : Operand) (hop : o.op = Op.mapUpdate 121 m x v)
    {b k sz : Nat} {ts : List (List Nat)} (hm : a.eval m = .map (some b)) (h : SS w b ts k sz) (hn : k ≤ 1000000) (p : List Nat) (hp : ts[k]? = some p) (hk : Lt p) (hl : p.length ≤ maxLen) (hx : a.eval x = .string (st p)) (hv : a.eval v = .bool true)
    (hK : ∀ w' sz', SS w' b ts (k + 1) sz' → w.grownBy w' (some b) → wpList Tryz.prog ops Q rest (a.put o.dst undef) w') : wpList Tryz.prog ops Q (o :: rest) a w :=
  wpList_mvput hg _ m x v hop underSB hm h.mv hn p hk hl hx _ hv fun w' h1 h2 => by
    obtain ⟨sz', h3⟩ := h.next hp h1
    exact hK w' sz' h3 h2
set_option maxRecDepth 100000 in
set_option maxHeartbeats 4000000 in
theorem hasTwice_any {w : World} {v : Value} {ts : List Tx} (h : Tw w v ts) (hl : ts.length ≤ 1000) :
    Calls Tryz.prog 69 #[v] w fun e w' => (∃ c, e = .returned (.bool c) ∧ (c = true ↔ ¬ ts.Nodup)) ∧ Kp w w' := by
  obtain ⟨Q, hQ⟩ : ∃ Q : Ending → World → Prop, Q = fun e w' => (∃ c, e = .returned (.bool c) ∧ (c = true ↔ ¬ ts.Nodup)) ∧ Kp w w' := ⟨_, rfl⟩
  rw [← hQ]
  have FIN : Hid (∀ (w' : World) (c : Bool), (c = true ↔ ¬ ts.Nodup) → Kp w w' → Q (.returned (.bool c)) w') := Lib.hid (by
    intro w' c h1 h2
    rw [hQ]
    exact ⟨⟨c, rfl, h1⟩, h2⟩)
  obtain ⟨W, hW⟩ : ∃ W, W = w.alloc (.map #[] 0) := ⟨_, rfl⟩
  obtain ⟨mb, hmb⟩ : ∃ b, b = w.heap.size := ⟨_, rfl⟩
  have HS0 : Hid (SS W mb ts 0 0) := Lib.hid (by
    rw [hW, hmb]
    exact ⟨(MV.made w).congr (fun c _ => by simp [smv]), Nat.le_refl _, by simp⟩)
  have HK0 : Hid (Kp w W) := Lib.hid (by rw [hW]; exact kp_alloc _ _)
  obtain ⟨ao, cap, rfl, hcap, -, -⟩ := h.open3
  obtain ⟨n, hn⟩ : ∃ n, n = ts.length := ⟨_, rfl⟩
  rw [← hn] at hcap h hl ⊢
  have HT := Lib.hid h; have HN := Lib.hid hn; have HW := Lib.hid hW; have HMB := Lib.hid hmb
  have i1 : (n : Int) ≤ (cap : Int) := by omega
  have i2 : (n : Int) ≤ 1000 := by omega
  have hmm := @run_makeMap Tryz.prog
  clear h hcap hQ hn hl hW hmb
  go_enter Tryz.func69, Tryz.ntmps69
  go_wp2_with fail
  rw [← HW.out, ← HMB.out]
  clear hmm
  go_loopw [9] (fun iv wy => ∃ (k sz : Nat), k ≤ n ∧ iv = .int .i64 k ∧ Kp w wy ∧ Hid (SS wy mb ts k sz)) (fun iv _ => n - (intOf iv).toNat)
  case atStart => exact ⟨0, 0, Nat.zero_le _, rfl, HK0.out, HS0⟩
  case round =>
    obtain ⟨k, sz, hk, rfl, hkp, HSS⟩ := hrel
    have HKP := Lib.hid hkp
    clear hkp
    rename World => wy
    by_cases hil : k < n
    · obtain ⟨x, hx⟩ : ∃ x, ts[k]? = some x := ⟨_, List.getElem?_eq_getElem (by have := HN.out; omega)⟩
      obtain ⟨g, o, rfl, hcell⟩ := (HT.out.keep HKP.out).cell (by omega)
      have d0 := hcell k x hx
      have hxo := HT.out.ok x (List.mem_of_getElem? hx)
      have j1 : (k : Int) < (n : Int) := by omega
      obtain ⟨X, hX⟩ : ∃ S, S = st x := ⟨_, rfl⟩
      rw [← hX] at d0
      have HX := Lib.hid hx; have HXX := Lib.hid hX; have HXO := Lib.hid hxo
      clear hcell hx hX hxo
      go_wp2_with (at_mapUpdate; refine wpList_ss rfl (.tmp 13) (.tmp 14) (.const (.bool true)) rfl rfl HSS.out (by omega) x HX.out HXO.out.1 (by have := HXO.out.2; unfold maxLen; omega) (by rw [← HXX.out]; rfl) rfl ?_)
      intro w7 sz7 km7 g7
      have H7 := Lib.hid km7
      have K7 : Hid (Kp w w7) := Lib.hid (grown_kpm HKP.out g7 (by have := HMB.out; omega))
      clear km7 g7
      go_wp2_with fail
      go_roundw
      case rel => exact ⟨k + 1, _, by omega, vint (by omega), K7.out, H7⟩
      case measure => simp [intOf]; omega
    · have HE : Hid (SS wy mb ts n sz) := Lib.hid (by
        have h := HSS.out
        obtain rfl : k = n := by omega
        exact h)
      have HEN : Hid (sz = n ↔ ts.Nodup) := Lib.hid (by
        have h := HE.out.nd
        rwa [List.take_of_length_le (by have := HN.out; omega)] at h)
      have HLE : Hid (sz ≤ n) := Lib.hid HE.out.le
      have ql : (Builtin.len_ #[121] 3 #[.map (some mb)]).run Tryz.prog wy = .ok (.int .i64 (sz : Nat)) wy := HE.out.mv.len underSB _
      by_cases hs : sz < n
      · have q : decide ((sz : Int) < (n : Int)) = true := decide_eq_true (by omega)
        have HC : Hid (¬ ts.Nodup) := Lib.hid (fun h => by have := HEN.out.2 h; omega)
        have hs2 : (sz : Int) < (n : Int) := by omega
        clear hs
        go_wp2_with fail
        exact FIN.out _ true ⟨fun _ => HC.out, fun _ => rfl⟩ HKP.out
      · have q : decide ((sz : Int) < (n : Int)) = false := decide_eq_false (by omega)
        have q2 : decide (sz < n) = false := decide_eq_false hs
        have HC : Hid (ts.Nodup) := Lib.hid (HEN.out.1 (by have := HLE.out; omega))
        have hs2 : (n : Int) ≤ (sz : Int) := by omega
        clear hs
        go_wp2_with fail
        exact FIN.out _ false ⟨fun h => (by cases h), fun h => absurd HC.out h⟩ HKP.out
end By
end Go.Proofs.YtfobogcccbddbaaGreatDoor

/- The paths that changes take away, as the program has them. Condition: at most a thousand changes. -/
namespace Go.Proofs.YtfobogcccbddbaaGreatDoor
namespace By
open Go.RowKit WireN LexN RevN FdN CtN
set_option linter.unusedVariables false
set_option linter.unusedSimpArgs false

set_option maxRecDepth 100000 in
set_option maxHeartbeats 8000000 in
theorem taken_any {w : World} {v : Value} {l : List Ch} (h : Cw w v l) (hl : l.length ≤ 1000) :
    Calls Tryz.prog 39 #[v] w fun e w' => ∃ u, e = .returned u ∧ OwT w w' u (tkL l) := by
  obtain ⟨Q, hQ⟩ : ∃ Q : Ending → World → Prop, Q = fun e w' => ∃ u, e = .returned u ∧ OwT w w' u (tkL l) := ⟨_, rfl⟩
  rw [← hQ]
  have FIN : Hid (∀ (w' : World) (u : Value), OwT w w' u (tkL l) → Q (.returned u) w') := Lib.hid (by
    intro w' u h1
    rw [hQ]
    exact ⟨u, rfl, h1⟩)
  obtain ⟨ao, cap, rfl, hcap, -, -⟩ := h.open3
  obtain ⟨n, hn⟩ : ∃ n, n = l.length := ⟨_, rfl⟩
  rw [← hn] at hcap h hl ⊢
  have HT := Lib.hid h; have HN := Lib.hid hn
  have i1 : (n : Int) ≤ (cap : Int) := by omega
  have i2 : (n : Int) ≤ 1000 := by omega
  clear h hcap hQ hn hl
  go_enter Tryz.func39, Tryz.ntmps39
  go_wp2_with fail
  go_loopw [2, 7] (fun uv iv wy => ∃ (k : Nat) (u : Value), k ≤ n ∧ iv = .int .i64 k ∧ uv = u ∧ OwT w wy u (tkL (l.take k))) (fun _ iv _ => n - (intOf iv).toNat)
  case atStart => exact ⟨0, _, Nat.zero_le _, rfl, rfl, OwT.start w⟩
  case round =>
    obtain ⟨k, u, hk, rfl, rfl, ho⟩ := hrel
    have HO := Lib.hid ho
    obtain ⟨⟨u1, u2, u3, rfl⟩, -⟩ := row_frc ho.owns
    clear ho
    rename World => wy
    by_cases hil : k < n
    · obtain ⟨x, hx⟩ : ∃ x, l[k]? = some x := ⟨_, List.getElem?_eq_getElem (by have := HN.out; omega)⟩
      obtain ⟨g, o, rfl, hcell⟩ := (HT.out.keep HO.out.kp).cell (by omega)
      obtain ⟨d0, d1, d2, d3⟩ := hcell k x hx
      have HXO := Lib.hid (HT.out.ok x (List.mem_of_getElem? hx))
      have j1 : (k : Int) < (n : Int) := by omega
      obtain ⟨X1, hX1⟩ : ∃ S, S = st x.2.1 := ⟨_, rfl⟩
      obtain ⟨X2, hX2⟩ : ∃ S, S = st x.2.2.1 := ⟨_, rfl⟩
      obtain ⟨X3, hX3⟩ : ∃ S, S = st x.2.2.2 := ⟨_, rfl⟩
      obtain ⟨K, hK⟩ : ∃ K, K = x.1 := ⟨_, rfl⟩
      rw [← hK] at d0
      rw [← hX1] at d1
      rw [← hX2] at d2
      rw [← hX3] at d3
      have HST := Lib.hid (tkL_snoc hx)
      have HLN : Hid ((tkL (l.take k)).length ≤ 1000000) := Lib.hid (by have := tkL_len (l.take k); have := List.length_take_le k l; omega)
      have HX1 := Lib.hid hX1; have HX2 := Lib.hid hX2; have HKK := Lib.hid hK
      clear hcell hx hX1 hX2 hX3 hK
      by_cases e2 : K = 2
      · subst e2
        have HTK : Hid (tks x = some x.2.1) := Lib.hid (tks2 HKK.out.symm)
        have HTX : Hid (TxOk x.2.1) := Lib.hid (chok_tks HXO.out HTK.out)
        obtain ⟨W3, hW3⟩ : ∃ W, W = wy.alloc (.cells #[.int .i64 2, .string X1, .string X2, .string X3] 50) := ⟨_, rfl⟩
        have hk3 : Kp wy W3 := by rw [hW3]; exact kp_alloc _ _
        obtain ⟨W5, hW5⟩ : ∃ W, W = W3.alloc (.cells #[.string X1] 9) := ⟨_, rfl⟩
        have e3 : W3.heap.size = wy.heap.size + 1 := by rw [hW3]; simp
        have HNB : Hid (Blk W5 (wy.heap.size + 1) 9 #[.string (st x.2.1)]) := Lib.hid (by rw [hW5, ← e3, ← HX1.out]; exact Blk.new _ _ _)
        have HO5 : Hid (OwT w W5 (.slice u1 u2 u3) (tkL (l.take k))) := Lib.hid (by rw [hW5]; exact (HO.out.keep hk3).keep (kp_alloc _ _))
        rw [hW5, hW3] at HNB HO5
        clear hk3 e3 hW5 hW3
        go_wp2_with (at_builtin; refine wpList_tx (w := w) rfl (.tmp 16) (.tmp 19) rfl _ rfl HO5.out HLN.out x.2.1 HTX.out (wy.heap.size + 1) rfl HNB.out ?_)
        intro v6 w6 ho6 hg6 hv6
        have HX : Hid (OwT w w6 v6 (tkL (l.take (k + 1)))) := Lib.hid (by
          rw [HST.out, HTK.out]
          exact ho6)
        clear ho6 hg6 hv6 d0 d1 d2 d3
        go_wp2_with fail
        go_roundw
        case rel => exact ⟨k + 1, _, by omega, vint (by omega), rfl, HX.out⟩
        case measure => simp [intOf]; omega
      · by_cases e3 : K = 3
        · subst e3
          have HTK : Hid (tks x = some x.2.1) := Lib.hid (tks3 HKK.out.symm)
          have HTX : Hid (TxOk x.2.1) := Lib.hid (chok_tks HXO.out HTK.out)
          obtain ⟨W3, hW3⟩ : ∃ W, W = wy.alloc (.cells #[.int .i64 3, .string X1, .string X2, .string X3] 50) := ⟨_, rfl⟩
          have hk3 : Kp wy W3 := by rw [hW3]; exact kp_alloc _ _
          obtain ⟨W5, hW5⟩ : ∃ W, W = W3.alloc (.cells #[.string X1] 9) := ⟨_, rfl⟩
          have e3 : W3.heap.size = wy.heap.size + 1 := by rw [hW3]; simp
          have HNB : Hid (Blk W5 (wy.heap.size + 1) 9 #[.string (st x.2.1)]) := Lib.hid (by rw [hW5, ← e3, ← HX1.out]; exact Blk.new _ _ _)
          have HO5 : Hid (OwT w W5 (.slice u1 u2 u3) (tkL (l.take k))) := Lib.hid (by rw [hW5]; exact (HO.out.keep hk3).keep (kp_alloc _ _))
          rw [hW5, hW3] at HNB HO5
          clear hk3 e3 hW5 hW3
          go_wp2_with (at_builtin; refine wpList_tx (w := w) rfl (.tmp 16) (.tmp 19) rfl _ rfl HO5.out HLN.out x.2.1 HTX.out (wy.heap.size + 1) rfl HNB.out ?_)
          intro v6 w6 ho6 hg6 hv6
          have HX : Hid (OwT w w6 v6 (tkL (l.take (k + 1)))) := Lib.hid (by
            rw [HST.out, HTK.out]
            exact ho6)
          clear ho6 hg6 hv6 d0 d1 d2 d3
          go_wp2_with fail
          go_roundw
          case rel => exact ⟨k + 1, _, by omega, vint (by omega), rfl, HX.out⟩
          case measure => simp [intOf]; omega
        · by_cases e4 : K = 4
          · subst e4
            have HTK : Hid (tks x = some x.2.2.1) := Lib.hid (tks4 HKK.out.symm)
            have HTX : Hid (TxOk x.2.2.1) := Lib.hid (chok_tks HXO.out HTK.out)
            obtain ⟨W3, hW3⟩ : ∃ W, W = wy.alloc (.cells #[.int .i64 4, .string X1, .string X2, .string X3] 50) := ⟨_, rfl⟩
            have hk3 : Kp wy W3 := by rw [hW3]; exact kp_alloc _ _
            obtain ⟨W5, hW5⟩ : ∃ W, W = W3.alloc (.cells #[.string X2] 9) := ⟨_, rfl⟩
            have e3 : W3.heap.size = wy.heap.size + 1 := by rw [hW3]; simp
            have HNB : Hid (Blk W5 (wy.heap.size + 1) 9 #[.string (st x.2.2.1)]) := Lib.hid (by rw [hW5, ← e3, ← HX2.out]; exact Blk.new _ _ _)
            have HO5 : Hid (OwT w W5 (.slice u1 u2 u3) (tkL (l.take k))) := Lib.hid (by rw [hW5]; exact (HO.out.keep hk3).keep (kp_alloc _ _))
            rw [hW5, hW3] at HNB HO5
            clear hk3 e3 hW5 hW3
            go_wp2_with (at_builtin; refine wpList_tx (w := w) rfl (.tmp 23) (.tmp 26) rfl _ rfl HO5.out HLN.out x.2.2.1 HTX.out (wy.heap.size + 1) rfl HNB.out ?_)
            intro v6 w6 ho6 hg6 hv6
            have HX : Hid (OwT w w6 v6 (tkL (l.take (k + 1)))) := Lib.hid (by
              rw [HST.out, HTK.out]
              exact ho6)
            clear ho6 hg6 hv6 d0 d1 d2 d3
            go_wp2_with fail
            go_roundw
            case rel => exact ⟨k + 1, _, by omega, vint (by omega), rfl, HX.out⟩
            case measure => simp [intOf]; omega
          · have r2 : (K == 2) = false := by simp [e2]
            have r3 : (K == 3) = false := by simp [e3]
            have r4 : (K == 4) = false := by simp [e4]
            have HTK : Hid (tks x = none) := Lib.hid (by unfold tks; rw [← HKK.out, if_neg e4, if_neg (fun h => by rcases h with h | h; exact e2 h; exact e3 h)])
            obtain ⟨W3, hW3⟩ : ∃ W, W = wy.alloc (.cells #[.int .i64 K, .string X1, .string X2, .string X3] 50) := ⟨_, rfl⟩
            have hk3 : Kp wy W3 := by rw [hW3]; exact kp_alloc _ _
            have HX : Hid (OwT w W3 (.slice u1 u2 u3) (tkL (l.take (k + 1)))) := Lib.hid (by
              rw [HST.out, HTK.out]
              show OwT w W3 _ (tkL (l.take k) ++ [])
              rw [List.append_nil]
              exact HO.out.keep hk3)
            have HW3 := Lib.hid hW3
            clear e2 e3 e4 hk3 hW3
            go_wp2_with fail
            rw [← HW3.out]
            go_roundw
            case rel => exact ⟨k + 1, _, by omega, vint (by omega), rfl, HX.out⟩
            case measure => simp [intOf]; omega
    · have HF : Hid (OwT w wy (.slice u1 u2 u3) (tkL l)) := Lib.hid (by
        have h := HO.out
        obtain rfl : k = n := by omega
        rwa [List.take_of_length_le (by have := HN.out; omega)] at h)
      go_wp2_with fail
      exact FIN.out _ _ HF.out
end By
end Go.Proofs.YtfobogcccbddbaaGreatDoor

/- A row of files that is made, behind a pointer. No condition. -/
namespace Go.Proofs.YtfobogcccbddbaaGreatDoor
namespace By
open Go.RowKit WireN LexN RevN
set_option linter.unusedVariables false
set_option linter.unusedSimpArgs false

/-- The row of files that is made, behind a pointer. -/
structure ApS (W0 W : World) (pq : Nat) (v : Value) (fs : List Fl) : Prop where
  ow : OwF W0 W v fs
  bq : Blk W pq 25 #[v]
  ne : ∀ b, v.ownBlock = some b → b ≠ pq
  lq : W0.heap.size ≤ pq
theorem ApS.keep {W0 W W' : World} {pq : Nat} {v : Value} {fs : List Fl} (h : ApS W0 W pq v fs) (hk : Kp W W') : ApS W0 W' pq v fs := ⟨h.ow.keep hk, h.bq.keep hk, h.ne, h.lq⟩
theorem ApS.kp {W0 W : World} {pq : Nat} {v : Value} {fs : List Fl} (h : ApS W0 W pq v fs) : Kp W0 W := h.ow.kp
theorem ApS.app {W0 W W' : World} {pq : Nat} {v v' : Value} {fs gs : List Fl} (h : ApS W0 W pq v fs) (ho : OwF W0 W' v' gs) (hg : W.grownBy W' v.ownBlock) (hb : v'.ownBlock = v.ownBlock ∨ v'.ownBlock = some W.heap.size) : ApS W0 (W'.setCell ⟨pq, 0, none⟩ v') pq v' gs := by
  have hn' : ∀ b, v'.ownBlock = some b → b ≠ pq := by
    intro b e
    rcases hb with h1 | h1
    · exact h.ne b (by rw [← h1]; exact e)
    · rw [h1] at e
      have h2 := Option.some.inj e
      have h3 := h.bq.lt
      omega
  have bq' : Blk W' pq 25 #[v] := h.bq.by hg (fun e => h.ne _ e.symm rfl)
  exact ⟨ho.only ((Only.refl pq W').set 0 _) h.lq hn', bq'.set 0 _, hn', h.lq⟩
end By
end Go.Proofs.YtfobogcccbddbaaGreatDoor

/- The keys of a table, sorted, by the library's contracts. Condition: at most a thousand keys. -/
namespace Go.Proofs.YtfobogcccbddbaaGreatDoor
namespace By
open Go.RowKit WireN LexN RevN FdN CtN
open Go.Sort Go.Shelf Go.Maps
set_option linter.unusedVariables false
set_option linter.unusedSimpArgs false

/-- slices.Sort's two contracts, at the fence that asks nothing. -/
theorem sortsK (m : Nat) : AnyZ.SortsIn Tryz.prog Tryz.sorted70_ren Fence.wide m :=
  ⟨fun blk off cap ss W hH hblk hsz => callsIn_wide.2 (AnyM.slices_Sort_string Tryz.laysSlM6_f94 blk off cap ss W hH hblk hsz),
   fun p cap W => callsIn_wide.2 (AnyM.slices_Sort_string_none Tryz.laysSlM6_f94 p cap W)⟩
abbrev keyFn (b : Nat) : Value := .func (.func 95) #[] #[.pointer (some ⟨b, 0, none⟩)]
theorem Keys_c (mb : Option Nat) (W : World) : Calls Tryz.prog 71 #[.map mb] W fun e w' => e = .returned (keyFn W.heap.size) ∧ w' = W.alloc (.cells #[.map mb] 58) :=
  callsIn_wide.1 (AnyZ.keys_in Tryz.keys71 Fence.wide 5 trivial rfl mb W)
set_option maxHeartbeats 1000000 in
theorem Sorted_c {H : Type} (b nn : Nat) (D0 : DataW H) (R : Value → Option (DataW H × List MemPlace)) (w : World) (hown : w.ownsMap Tryz.prog 9 R b nn D0) (hmax : Maps.size D0 ≤ maxLen) (hbytes : Maps.size D0 * 16 ≤ 140737488355328) :
    Calls Tryz.prog 70 #[keyFn w.heap.size] (w.alloc (.cells #[.map (some b)] 58)) fun e w' => ∃ (v : Value) (ss : List (List UInt8)), e = .returned v ∧ ss.Perm (strKeys D0) ∧
      w'.ownsRow (w.alloc (.cells #[.map (some b)] 58)).heap.size 9 1 v ss.length ((ss.mergeSort (fun x y => decide (x ≤ y))).map encStr) ∧ (v = .slice none 0 0 ↔ ss = []) ∧ Kp (w.alloc (.cells #[.map (some b)] 58)) w' := by
  have hbl := hown.lt
  have hseq : SeqGives Fence.wide 2 Tryz.prog 95 #[.pointer (some ⟨w.heap.size, 0, none⟩)] encStr (fun ss => ss.Perm (strKeys D0)) (Maps.size D0) (w.alloc (.cells #[.map (some b)] 58)) :=
    AnyZ.keys_gives (ρ := Tryz.keys71_ren) { Tryz.keys71 with } Fence.wide _ trivial rfl (by omega) w.heap.size b nn D0 _ (by simp) (by simp) (by
      obtain ⟨es, clock, hb, Ft, hs, hD⟩ := hown
      exact ⟨es, clock, (Below.heap_alloc _ _ b hbl).trans hb, Ft, hs, hD⟩)
  exact callsIn_wide.1 (AnyZ.sorted_in Tryz.sorted70 Fence.wide 5 trivial trivial trivial trivial rfl (by omega) (sortsK _) (enters_of Tryz.func94 (by kernel_rfl) rfl) 95 #[.pointer (some ⟨w.heap.size, 0, none⟩)] trivial (enters_of Tryz.func95 (by kernel_rfl) rfl) _ _ hmax hbytes _ hseq)
theorem lss_u8 : ∀ x y : List UInt8, lss (x.map UInt8.toNat) (y.map UInt8.toNat) = decide (x < y)
  | _, [] => by simp [lss_nil]
  | [], b :: y => by simp [lss]
  | a :: x, b :: y => by
    simp only [List.map_cons, lss, lss_u8 x y]
    rw [Bool.eq_iff_iff]
    simp only [Bool.or_eq_true, Bool.and_eq_true, decide_eq_true_eq, beq_iff_eq, List.cons_lt_cons_iff, UInt8.lt_iff_toNat_lt]
    constructor
    · rintro (h | ⟨h1, h2⟩)
      · exact .inl h
      · exact .inr ⟨UInt8.toNat_inj.1 h1, h2⟩
    · rintro (h | ⟨h1, h2⟩)
      · exact .inl h
      · exact .inr ⟨by rw [h1], h2⟩
/-- The texts of bytes. -/
def u8L (ss : List (List UInt8)) : List Tx := ss.map fun x => x.map UInt8.toNat
theorem u8_enc (ss : List (List UInt8)) : ss.map encStr = tcel (u8L ss) := by
  unfold tcel u8L
  rw [List.map_map]
  refine List.map_congr_left fun x _ => ?_
  show Value.string ⟨x.toArray⟩ = .string (st (x.map UInt8.toNat))
  have h := st_bs ⟨x.toArray⟩
  have e : bs ⟨x.toArray⟩ = x.map UInt8.toNat := by simp [bs]
  rw [← e, h]
/-- A row of texts that owns its memory reads as them. -/
theorem tw_row {w : World} {base : Nat} {v : Value} {ts : List Tx} (h : w.ownsRow base 9 1 v ts.length (tcel ts)) (ho : ∀ x ∈ ts, TxOk x) : Tw w v ts := by
  refine ⟨?_, ho⟩
  rcases h.2 with ⟨rfl, h0⟩ | ⟨g, cap, cur, rfl, hb, hg, hnc, hcm, hsz, htake⟩
  · exact ⟨none, 0, by rw [h0], by omega, by unfold maxLen; omega, .inl (List.length_eq_zero_iff.1 h0), fun _ => rfl⟩
  · refine ⟨some ⟨g, 0, none⟩, cap, rfl, hnc, hcm, .inr ⟨g, 0, rfl, fun j f hf => ?_⟩, fun h => nomatch h⟩
    have hj : j < ts.length := (List.getElem?_eq_some_iff.1 hf).1
    have h1 := tcel_at hf
    have hcl := tcel_len ts
    rw [Nat.zero_add, cell_of_row w g j cur _ (0, 0) hg]
    rw [← htake, List.getElem?_take, if_pos (by omega)] at h1
    simpa using h1
/-- The sorted keys of a table. -/
structure Skeys (m : FM) (ts : List Tx) : Prop where
  srt : ts.Pairwise fun x y => lss x y = true
  lt : ∀ p ∈ ts, Lt p
  mem : ∀ p, Lt p → (p ∈ ts ↔ (m p).isSome = true)
theorem keys_sorted {w : World} {b n : Nat} {m : FM} (h : TM w b n m) (hn : n ≤ 1000) (hk : ∀ p, (m p).isSome = true → p.length ≤ 140737488355328) :
    Calls Tryz.prog 70 #[keyFn w.heap.size] (w.alloc (.cells #[.map (some b)] 58)) fun e w' => ∃ v ts, e = .returned v ∧ Tw w' v ts ∧ Skeys m ts ∧ ts.length ≤ n ∧ (∀ c, v.ownBlock = some c → w.heap.size ≤ c ∧ c < w'.heap.size) ∧ Kp (w.alloc (.cells #[.map (some b)] 58)) w' := by
  obtain ⟨sz, h⟩ := h
  have hsz := h.sz_le
  obtain ⟨D, h1, h2, h3⟩ := h.keys
  refine (Sorted_c b n D RV w h1 (by unfold maxLen; omega) (by omega)).mono ?_
  rintro e w' ⟨v, ss, rfl, hp, hrow, -, hkp⟩
  obtain ⟨hnd, hlen, hmem⟩ := h3 ss hp
  have hps := List.mergeSort_perm ss (fun x y => decide (x ≤ y))
  have hlL : (u8L (ss.mergeSort fun x y => decide (x ≤ y))).length = ss.length := by unfold u8L; rw [List.length_map, hps.length_eq]
  have hok : ∀ p ∈ u8L (ss.mergeSort fun x y => decide (x ≤ y)), TxOk p ∧ (m p).isSome = true := by
    intro p hp2
    obtain ⟨x, hx, rfl⟩ := List.mem_map.1 hp2
    have h4 := (hmem x).1 (hps.mem_iff.1 hx)
    rw [tmv_is] at h4
    exact ⟨⟨(by have := bs_lt ⟨x.toArray⟩; simpa [bs] using this), hk _ h4⟩, h4⟩
  refine ⟨v, u8L (ss.mergeSort fun x y => decide (x ≤ y)), rfl, tw_row (base := (w.alloc (.cells #[.map (some b)] 58)).heap.size) (by rw [hlL, ← u8_enc]; exact hrow) (fun p hp2 => (hok p hp2).1), ⟨?_, fun p hp2 => (hok p hp2).1.1, fun p hlt => ?_⟩, ?_, fun c hc => by
    have h9 := (row_frc hrow).2 c hc
    simp at h9
    omega, hkp⟩
  · unfold u8L
    rw [List.pairwise_map]
    have tr : ∀ a b c : List UInt8, decide (a ≤ b) = true → decide (b ≤ c) = true → decide (a ≤ c) = true := fun a b c h1 h2 => by simp only [decide_eq_true_eq] at *; exact List.le_trans h1 h2
    have tot : ∀ a b : List UInt8, (decide (a ≤ b) || decide (b ≤ a)) = true := fun a b => by simp only [Bool.or_eq_true, decide_eq_true_eq]; exact List.le_total a b
    have hs := List.pairwise_mergeSort tr tot ss
    have hn2 : (ss.mergeSort fun x y => decide (x ≤ y)).Nodup := hps.nodup_iff.2 hnd
    refine (hs.and hn2).imp fun {x y} hxy => ?_
    rw [lss_u8, decide_eq_true_eq]
    have h5 := hxy.1
    simp only [decide_eq_true_eq] at h5
    rcases List.le_iff_lt_or_eq.1 h5 with h6 | h6
    · exact h6
    · exact absurd h6 hxy.2
  · constructor
    · exact fun hp2 => (hok p hp2).2
    · intro hp2
      refine List.mem_map.2 ⟨p.map fun n => UInt8.ofNat n, hps.mem_iff.2 ((hmem _).2 ?_), ?_⟩
      · have e : (p.map fun n => UInt8.ofNat n).map UInt8.toNat = p := by have := bs_st hlt; simpa [bs, st] using this
        rw [e, tmv_is]
        exact hp2
      · have := bs_st hlt; simpa [bs, st] using this
  · rw [hlL, hp.length_eq]
    have : (strKeys D).length = Go.Maps.size D := by
      obtain ⟨es, rfl, -⟩ := h1.entries keyed_st
      show (es.map fun p => strOf p.1).length = es.length
      rw [List.length_map]
    omega
end By
end Go.Proofs.YtfobogcccbddbaaGreatDoor
