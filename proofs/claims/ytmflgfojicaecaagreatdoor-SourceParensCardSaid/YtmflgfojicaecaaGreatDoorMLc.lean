/- A map from bytes to small numbers of the call's own; the program's kindsOfBytes. No condition. -/
import Derived.Test.YtmflgfojicaecaaGreatDoorMLb
import Derived.Maps.Own
import Derived.Maps.OwnOps
import Derived.Maps.Views
import Derived.Lib.SlBytesConst
import Derived.Maps.AppendAt
namespace Go.Proofs.YtmflgfojicaecaaGreatDoor
namespace By
open Go.RowKit WireN LexN
set_option linter.unusedVariables false
set_option linter.unusedSimpArgs false

/-- The kind of a byte: what begins with it. -/
def kd (c : Nat) : Nat := if LexN.blank c = true then 1 else if c = 35 then 2 else if letter c = true then 3 else if digit c = true then 4 else if c = 34 then 5 else if sgn c = true then 6 else 0
/-- Block b is a map of at most n entries that has f c at each byte c. -/
structure KM (w : World) (b n : Nat) (f : Nat → Nat) : Prop where
  ex : ∃ D : DataW Unit, w.ownsMap Tryz.prog 5 (plainElem Tryz.prog 3) b n D ∧ Go.Maps.IsMap D ∧ ∀ c : Nat, c < 256 → D.atKey (.int .u8 (c : Nat)) (.lit (.int .i64 0)) = .lit (.int .i64 (f c : Nat))
def upd (f : Nat → Nat) (k d : Nat) : Nat → Nat := fun c => if c = k then d else f c
theorem KM.made (w : World) : KM (w.alloc (.map #[] 0)) w.heap.size 0 (fun _ => 0) :=
  ⟨.map [], World.ownsMap_made w _ _ _, ⟨[], rfl⟩, fun c _ => rfl⟩
theorem KM.kept {w w' : World} {b n : Nat} {f : Nat → Nat} {row : Option Nat} (h : KM w b n f) (hg : w.grownBy w' row) (hne : some b ≠ row) : KM w' b n f := by
  obtain ⟨D, h1, h2, h3⟩ := h
  exact ⟨D, h1.kept hg hne, h2, h3⟩
theorem KM.keep {w w' : World} {b n : Nat} {f : Nat → Nat} (h : KM w b n f) (hk : Kp w w') : KM w' b n f :=
  h.kept (row := none) ⟨hk.os, hk.tape, hk.output, hk.size, fun i hi _ => hk.block i hi⟩ (by simp)
theorem KM.mono {w : World} {b n m : Nat} {f : Nat → Nat} (h : KM w b n f) (hn : n ≤ m) : KM w b m f := by
  obtain ⟨D, h1, h2, h3⟩ := h
  exact ⟨D, h1.mono hn, h2, h3⟩
theorem KM.of {w : World} {b n : Nat} {f g : Nat → Nat} (h : KM w b n f) (hfg : ∀ c, c < 256 → f c = g c) : KM w b n g := by
  obtain ⟨D, h1, h2, h3⟩ := h
  exact ⟨D, h1, h2, fun c hc => by rw [h3 c hc, hfg c hc]⟩
theorem law8 : Go.Maps.Keyed Tryz.prog 5 := Go.Maps.int_keyed Tryz.underlying5
theorem zeroI (w : World) : (zeroValue 3).run Tryz.prog w = .ok (.int .i64 0) w := Tryz.zeroValue3 w
theorem wf8 {k : Nat} (hk : k < 256) : (Lit.int .u8 (k : Nat)).wf = true := by
  have key : ∀ k : Fin 256, (Lit.int .u8 (k.val : Nat)).wf = true := by decide +kernel
  exact key ⟨k, hk⟩
theorem wfI {d : Nat} (hd : d < 10) : (Lit.int .i64 (d : Nat)).wf = true := by
  have key : ∀ k : Fin 10, (Lit.int .i64 (k.val : Nat)).wf = true := by decide +kernel
  exact key ⟨d, hd⟩
set_option maxRecDepth 100000 in
theorem KM.put {w : World} {b n : Nat} {f : Nat → Nat} (h : KM w b n f) (hn : n < 100000) {k d : Nat} (hk : k < 256) (hd : d < 10) :
    ∃ w', (Instr.mapUpdate 117 (.map (some b)) (.int .u8 (k : Nat)) (.int .i64 (d : Nat))).run Tryz.prog w = .ok () w' ∧ KM w' b (n + 1) (upd f k d) ∧ w.grownBy w' (some b) := by
  obtain ⟨D, h1, h2, h3⟩ := h
  obtain ⟨w', hr, ho, hg⟩ := h1.update law8 Tryz.underlying117 (by unfold maxLen; omega) (Go.Maps.keyOf_int_mk Tryz.underlying5 (wf8 hk)) (plainElem_int (H := Unit) Tryz.underlying3 (wfI hd))
  refine ⟨w', hr, ⟨_, ho, ?_, fun c hc => ?_⟩, hg⟩
  · obtain ⟨es, rfl⟩ := h2
    exact ⟨_, rfl⟩
  · unfold upd
    by_cases hck : c = k
    · subst hck
      rw [if_pos rfl, Go.Maps.atKey_put_same h2 (by trivial)]
    · rw [if_neg hck, Go.Maps.atKey_put_other (fun e => hck (by injection e with e1 e2; omega)), h3 c hc]
theorem wpList_upd {w : World} {ops : Array Oper} {rest : List Oper} {o : Oper} {a : Act} {Q : Exit → Act → World → Prop} (hg : o.guard = none) (m x v : Operand) (hop : o.op = Op.mapUpdate 117 m x v)
    {b n : Nat} {f : Nat → Nat} (hm : a.eval m = .map (some b)) (h : KM w b n f) (hn : n < 100000) (k : Nat) (hk : k < 256) (d : Nat) (hd : d < 10) (hx : a.eval x = .int .u8 (k : Nat)) (hv : a.eval v = .int .i64 (d : Nat))
    (hK : ∀ w', KM w' b (n + 1) (upd f k d) → w.grownBy w' (some b) → wpList Tryz.prog ops Q rest (a.put o.dst undef) w') : wpList Tryz.prog ops Q (o :: rest) a w := by
  refine wpList_plain hg fun K' hK' => ?_
  obtain ⟨w', hrun, r1, r2⟩ := h.put hn hk hd
  unfold Oper.wp
  simp [execOp, hop, hm, hx, hv, hrun, Result.andThen]
  exact hK' _ _ (hK w' r1 r2)
theorem wpList_ins {w : World} {ops : Array Oper} {rest : List Oper} {o : Oper} {a : Act} {Q : Exit → Act → World → Prop} (hg : o.guard = none) (m x v : Operand) (hop : o.op = Op.insert 117 m x v)
    {b n : Nat} {f : Nat → Nat} (hm : a.eval m = .map (some b)) (h : KM w b n f) (hn : n < 100000) (k : Nat) (hk : k < 256) (d : Nat) (hd : d < 10) (hx : a.eval x = .int .u8 (k : Nat)) (hv : a.eval v = .int .i64 (d : Nat))
    (hK : ∀ w', KM w' b (n + 1) (upd f k d) → w.grownBy w' (some b) → wpList Tryz.prog ops Q rest (a.put o.dst undef) w') : wpList Tryz.prog ops Q (o :: rest) a w := by
  refine wpList_plain hg fun K' hK' => ?_
  obtain ⟨w', hrun, r1, r2⟩ := h.put hn hk hd
  unfold Oper.wp
  simp [execOp, hop, hm, hx, hv, hrun, Result.andThen]
  exact hK' _ _ (hK w' r1 r2)
set_option maxRecDepth 100000 in
/-- What is found in the map. -/
theorem KM.get {w : World} {b n : Nat} {f : Nat → Nat} (h : KM w b n f) {c : Nat} (hc : c < 256) : (Instr.lookup 117 (.map (some b)) (.int .u8 (c : Nat)) false).run Tryz.prog w = .ok (.int .i64 (f c : Nat)) w := by
  obtain ⟨D, h1, h2, h3⟩ := h
  obtain ⟨x, hr, hx, -⟩ := h1.lookup_int law8 Tryz.underlying117 Tryz.underlying3 (zeroI w) (Go.Maps.keyOf_int_mk Tryz.underlying5 (wf8 hc))
  rw [h3 c hc] at hx
  injection hx with hx
  injection hx with e1 e2
  rw [hr, e2]
theorem grown_kp {a b c : World} {g : Nat} (hk : Kp a b) (h : b.grownBy c (some g)) (hg : a.heap.size ≤ g) : Kp a c :=
  Below.grown hk h hk.size (fun k hk => by injection hk with hk; omega)
def k0 : Nat → Nat := upd (upd (upd (upd (upd (upd (fun _ => 0) 9 1) 10 1) 13 1) 32 1) 35 2) 34 5
def k1 (k : Nat) : Nat → Nat := fun c => if 97 ≤ c ∧ c < k then 3 else k0 c
def k2 (k : Nat) : Nat → Nat := fun c => if 48 ≤ c ∧ c < k then 4 else k1 123 c
def k3 (k : Nat) : Nat → Nat := fun c => if (signs.take k).contains c = true then 6 else k2 58 c
theorem k1_start : k1 97 = k0 := by funext c; simp only [k1]; rw [if_neg (by omega)]
theorem k1_step {k : Nat} (h : 97 ≤ k) : upd (k1 k) k 3 = k1 (k + 1) := by
  funext c
  simp only [upd, k1]
  by_cases h1 : c = k
  · subst h1; rw [if_pos rfl, if_pos (by omega)]
  · rw [if_neg h1]
    by_cases h2 : 97 ≤ c ∧ c < k
    · rw [if_pos h2, if_pos (by omega)]
    · rw [if_neg h2, if_neg (by omega)]
theorem k2_start : k2 48 = k1 123 := by funext c; simp only [k2]; rw [if_neg (by omega)]
theorem k2_step {k : Nat} (h : 48 ≤ k) : upd (k2 k) k 4 = k2 (k + 1) := by
  funext c
  simp only [upd, k2]
  by_cases h1 : c = k
  · subst h1; rw [if_pos rfl, if_pos (by omega)]
  · rw [if_neg h1]
    by_cases h2 : 48 ≤ c ∧ c < k
    · rw [if_pos h2, if_pos (by omega)]
    · rw [if_neg h2, if_neg (by omega)]
theorem k3_start : k3 0 = k2 58 := by funext c; simp [k3]
theorem k3_step {k : Nat} (h : k < 11) : upd (k3 k) (at' signs k) 6 = k3 (k + 1) := by
  funext c
  simp only [upd, k3]
  have e : signs.take (k + 1) = signs.take k ++ [at' signs k] := by
    rw [List.take_succ_eq_append_getElem (show k < signs.length from h)]
    congr 2
    simp [at', show k < signs.length from h]
  rw [e]
  by_cases h1 : c = at' signs k
  · rw [if_pos h1, if_pos (by simp [h1])]
  · rw [if_neg h1]
    have : (signs.take k ++ [at' signs k]).contains c = (signs.take k).contains c := by simp [h1]
    rw [this]
theorem k3_all : ∀ c, c < 256 → k3 11 c = kd c := by
  intro c hc
  have key : ∀ c : Fin 256, k3 11 c.val = kd c.val := by decide +kernel
  exact key ⟨c, hc⟩
end By
end Go.Proofs.YtmflgfojicaecaaGreatDoor

/- The program's kindsOfBytes: the kinds of all bytes. No condition. -/
namespace Go.Proofs.YtmflgfojicaecaaGreatDoor
namespace By
open Go.RowKit WireN LexN
set_option linter.unusedVariables false
set_option linter.unusedSimpArgs false

def KindsR (w : World) (e : Ending) (w' : World) : Prop := ∃ b, e = .returned (.map (some b)) ∧ KM w' b 1000 kd ∧ Kp w w'
set_option maxRecDepth 100000 in
set_option maxHeartbeats 2000000 in
theorem kinds_any (w : World) : Calls Tryz.prog 81 #[] w (KindsR w) := by
  have hmm := @run_makeMap Tryz.prog
  have H0 := Lib.hid (KM.made w)
  have HP0 := Lib.hid (kp_alloc w (.map #[] 0))
  go_enter Tryz.func81, Tryz.ntmps81
  go_wp2_with (refine wpList_ins rfl (.tmp 6) (.const (.int .u8 9)) (.const (.int .i64 1)) rfl rfl H0.out (by omega) 9 (by omega) 1 (by omega) rfl rfl ?_)
  intro w1 km1 g1
  have H1 := Lib.hid km1; have HP1 := Lib.hid (grown_kp HP0.out g1 (Nat.le_refl _))
  clear km1 g1
  go_wp2_with (refine wpList_ins rfl (.tmp 6) (.const (.int .u8 10)) (.const (.int .i64 1)) rfl rfl H1.out (by omega) 10 (by omega) 1 (by omega) rfl rfl ?_)
  intro w2 km2 g2
  have H2 := Lib.hid km2; have HP2 := Lib.hid (grown_kp HP1.out g2 (Nat.le_refl _))
  clear km2 g2
  go_wp2_with (refine wpList_ins rfl (.tmp 6) (.const (.int .u8 13)) (.const (.int .i64 1)) rfl rfl H2.out (by omega) 13 (by omega) 1 (by omega) rfl rfl ?_)
  intro w3 km3 g3
  have H3 := Lib.hid km3; have HP3 := Lib.hid (grown_kp HP2.out g3 (Nat.le_refl _))
  clear km3 g3
  go_wp2_with (refine wpList_ins rfl (.tmp 6) (.const (.int .u8 32)) (.const (.int .i64 1)) rfl rfl H3.out (by omega) 32 (by omega) 1 (by omega) rfl rfl ?_)
  intro w4 km4 g4
  have H4 := Lib.hid km4; have HP4 := Lib.hid (grown_kp HP3.out g4 (Nat.le_refl _))
  clear km4 g4
  go_wp2_with (refine wpList_ins rfl (.tmp 6) (.const (.int .u8 35)) (.const (.int .i64 2)) rfl rfl H4.out (by omega) 35 (by omega) 2 (by omega) rfl rfl ?_)
  intro w5 km5 g5
  have H5 := Lib.hid km5; have HP5 := Lib.hid (grown_kp HP4.out g5 (Nat.le_refl _))
  clear km5 g5
  go_wp2_with (refine wpList_ins rfl (.tmp 6) (.const (.int .u8 34)) (.const (.int .i64 5)) rfl rfl H5.out (by omega) 34 (by omega) 5 (by omega) rfl rfl ?_)
  intro w6 km6 g6
  have H6 := Lib.hid km6; have HP6 := Lib.hid (grown_kp HP5.out g6 (Nat.le_refl _))
  clear km6 g6
  have HK : Hid (KM w6 w.heap.size 97 (k1 97)) := Lib.hid (by rw [k1_start]; exact H6.out.mono (by omega))
  go_wp2_with fail
  go_loopw [2] (fun q wr => ∃ k : Nat, q = .int .u8 k ∧ 97 ≤ k ∧ k ≤ 123 ∧ KM wr w.heap.size k (k1 k) ∧ Kp w wr) (fun q _ => 123 - (intOf q).toNat)
  case atStart => exact ⟨97, rfl, by omega, by omega, HK.out, HP6.out⟩
  case round =>
    obtain ⟨k, rfl, hk1, hk2, hkm, hkp⟩ := hrel
    rename World => wx
    have HKM := Lib.hid hkm; have HKP := Lib.hid hkp
    clear hkm hkp
    by_cases hk : k ≤ 122
    · have hki : (k : Int) ≤ 122 := by omega
      go_wp2_with (at_mapUpdate; refine wpList_upd rfl (.tmp 12) (.tmp 13) (.const (.int .i64 3)) rfl rfl HKM.out (by omega) k (by omega) 3 (by omega) rfl rfl ?_)
      intro w7 km7 g7
      have H7 : Hid (KM w7 w.heap.size (k + 1) (k1 (k + 1))) := Lib.hid (by rw [← k1_step hk1]; exact km7)
      have HP7 := Lib.hid (grown_kp HKP.out g7 (Nat.le_refl _))
      clear km7 g7
      go_wp2_with fail
      go_roundw
      case rel => exact ⟨k + 1, by go_num, by omega, by omega, H7.out, HP7.out⟩
      case measure => simp [intOf]; omega
    · have hki : (122 : Int) < (k : Int) := by omega
      have HK2 : Hid (KM wx w.heap.size (75 + 48) (k2 48)) := Lib.hid (by
        have h := HKM.out
        rw [show k = 123 by omega] at h
        rw [k2_start]; exact h)
      clear hk
      go_wp2_with fail
      go_loopw [3] (fun q wr => ∃ k : Nat, q = .int .u8 k ∧ 48 ≤ k ∧ k ≤ 58 ∧ KM wr w.heap.size (75 + k) (k2 k) ∧ Kp w wr) (fun q _ => 58 - (intOf q).toNat)
      case atStart => exact ⟨48, rfl, by omega, by omega, HK2.out, HKP.out⟩
      case round =>
        obtain ⟨k, rfl, hk1, hk2, hkm, hkp⟩ := hrel
        rename World => wy
        have HKM2 := Lib.hid hkm; have HKP2 := Lib.hid hkp
        clear hkm hkp
        by_cases hk : k ≤ 57
        · have hki : (k : Int) ≤ 57 := by omega
          go_wp2_with (at_mapUpdate; refine wpList_upd rfl (.tmp 18) (.tmp 19) (.const (.int .i64 4)) rfl rfl HKM2.out (by omega) k (by omega) 4 (by omega) rfl rfl ?_)
          intro w7 km7 g7
          have H7 : Hid (KM w7 w.heap.size (75 + (k + 1)) (k2 (k + 1))) := Lib.hid (by rw [← k2_step hk1]; exact km7)
          have HP7 := Lib.hid (grown_kp HKP2.out g7 (Nat.le_refl _))
          clear km7 g7
          go_wp2_with fail
          go_roundw
          case rel => exact ⟨k + 1, by go_num, by omega, by omega, H7.out, HP7.out⟩
          case measure => simp [intOf]; omega
        · have hki : (57 : Int) < (k : Int) := by omega
          have HK58 : Hid (KM wy w.heap.size 133 (k2 58)) := Lib.hid (by
            have h := HKM2.out
            rw [show k = 58 by omega] at h
            exact h)
          clear hk
          have hkb := kp_alloc wy (.cells #[.int .u8 59, .int .u8 44, .int .u8 40, .int .u8 41, .int .u8 43, .int .u8 45, .int .u8 42, .int .u8 47, .int .u8 37, .int .u8 60, .int .u8 61] 5 (11, 12))
          have HK3 := Lib.hid ((show KM wy w.heap.size (133 + 0) (k3 0) from by rw [k3_start]; exact HK58.out).keep hkb)
          have HP3 := Lib.hid (Kp.trans HKP2.out hkb)
          have HB3 : Hid ((wy.alloc (.cells #[.int .u8 59, .int .u8 44, .int .u8 40, .int .u8 41, .int .u8 43, .int .u8 45, .int .u8 42, .int .u8 47, .int .u8 37, .int .u8 60, .int .u8 61] 5 (11, 12))).heap[wy.heap.size]? = some (.cells #[.int .u8 59, .int .u8 44, .int .u8 40, .int .u8 41, .int .u8 43, .int .u8 45, .int .u8 42, .int .u8 47, .int .u8 37, .int .u8 60, .int .u8 61] 5 (11, 12))) := Lib.hid (heap_alloc_new wy _)
          have hcv : (convert 69 69 (.slice (some ⟨wy.heap.size, 0, none⟩) 11 11)).run Tryz.prog (wy.alloc (.cells #[.int .u8 59, .int .u8 44, .int .u8 40, .int .u8 41, .int .u8 43, .int .u8 45, .int .u8 42, .int .u8 47, .int .u8 37, .int .u8 60, .int .u8 61] 5)) = .ok (.slice (some ⟨wy.heap.size, 0, none⟩) 11 11) (wy.alloc (.cells #[.int .u8 59, .int .u8 44, .int .u8 40, .int .u8 41, .int .u8 43, .int .u8 45, .int .u8 42, .int .u8 47, .int .u8 37, .int .u8 60, .int .u8 61] 5 (11, 12))) := Lib.run_convert_bytes_const wy _ _ _ 11 11 Tryz.underlying69 Tryz.underlying5
          have HLT : Hid (w.heap.size < wy.heap.size) := Lib.hid (by obtain ⟨D, h1, -, -⟩ := HKM2.out.ex; exact h1.lt)
          clear hkb
          go_wp2_with fail
          clear hcv
          go_loopw [23] (fun q wr => ∃ k : Nat, q = .int .i64 k ∧ k ≤ 11 ∧ KM wr w.heap.size (133 + k) (k3 k) ∧ Kp w wr ∧ wr.heap[wy.heap.size]? = some (.cells #[.int .u8 59, .int .u8 44, .int .u8 40, .int .u8 41, .int .u8 43, .int .u8 45, .int .u8 42, .int .u8 47, .int .u8 37, .int .u8 60, .int .u8 61] 5 (11, 12))) (fun q _ => 11 - (intOf q).toNat)
          case atStart => exact ⟨0, rfl, by omega, HK3.out, HP3.out, HB3.out⟩
          case round =>
            obtain ⟨k, rfl, hk2, hkm, hkp, hblk⟩ := hrel
            rename World => wz
            have HKM3 := Lib.hid hkm; have HKP3 := Lib.hid hkp; have HBL : Hid (wz.heap[wy.heap.size]? = _) := Lib.hid hblk
            clear hkm hkp hblk
            by_cases hk : k < 11
            · have hc : wz.cell? ⟨wy.heap.size, k, none⟩ = some (.int .u8 (at' signs k : Nat)) := (cell_of_row wz wy.heap.size k _ _ (11, 12) HBL.out).trans (by
                have key : ∀ k : Fin 11, (#[.int .u8 59, .int .u8 44, .int .u8 40, .int .u8 41, .int .u8 43, .int .u8 45, .int .u8 42, .int .u8 47, .int .u8 37, .int .u8 60, .int .u8 61] : Array Value)[k.val]? = some (.int .u8 (at' signs k.val : Nat)) := by
                  intro k
                  match k with
                  | 0 => rfl
                  | 1 => rfl
                  | 2 => rfl
                  | 3 => rfl
                  | 4 => rfl
                  | 5 => rfl
                  | 6 => rfl
                  | 7 => rfl
                  | 8 => rfl
                  | 9 => rfl
                  | 10 => rfl
                exact key ⟨k, hk⟩)
              have hb : at' signs k < 256 := by
                have key : ∀ k : Fin 11, at' signs k.val < 256 := by decide +kernel
                exact key ⟨k, hk⟩
              have HST := Lib.hid (k3_step hk)
              obtain ⟨c, hcc⟩ : ∃ c, c = at' signs k := ⟨_, rfl⟩
              rw [← hcc] at hc hb HST
              clear hcc
              go_wp2_with (at_mapUpdate; refine wpList_upd rfl (.tmp 27) (.tmp 28) (.const (.int .i64 6)) rfl rfl HKM3.out (by omega) c hb 6 (by omega) rfl rfl ?_)
              intro w7 km7 g7
              have H7 : Hid (KM w7 w.heap.size (133 + (k + 1)) (k3 (k + 1))) := Lib.hid (by rw [← HST.out]; exact km7)
              have HP7 := Lib.hid (grown_kp HKP3.out g7 (Nat.le_refl _))
              have HB7 : Hid (w7.heap[wy.heap.size]? = some (.cells #[.int .u8 59, .int .u8 44, .int .u8 40, .int .u8 41, .int .u8 43, .int .u8 45, .int .u8 42, .int .u8 47, .int .u8 37, .int .u8 60, .int .u8 61] 5 (11, 12))) := Lib.hid ((g7.block _ (lt_of_block HBL.out) (fun e => by injection e with e; have := HLT.out; omega)).trans HBL.out)
              clear km7 g7
              go_wp2_with fail
              go_roundw
              case rel => exact ⟨k + 1, by go_num, by omega, H7.out, HP7.out, HB7.out⟩
              case measure => simp [intOf]; omega
            · have HF : Hid (KindsR w (.returned (.map (some w.heap.size))) wz) := Lib.hid (by
                have h := HKM3.out
                rw [show k = 11 by omega] at h
                exact ⟨w.heap.size, rfl, (h.mono (by omega)).of k3_all, HKP3.out⟩)
              go_wp2_with fail
              go_ret
              exact HF.out
end By
end Go.Proofs.YtmflgfojicaecaaGreatDoor

/- Rows of tokens in memory of the call's own. No condition. -/
namespace Go.Proofs.YtmflgfojicaecaaGreatDoor
namespace By
open Go.RowKit WireN LexN
set_option linter.unusedVariables false
set_option linter.unusedSimpArgs false

def tcell (t : Tok) : List Value := [.int .i64 (t.1 : Nat), .string (st t.2.1), .int .i64 (t.2.2.1 : Nat), .int .i64 (t.2.2.2 : Nat)]
def tcells : List Tok → List Value
  | [] => []
  | t :: ts => tcell t ++ tcells ts
theorem tcells_len : ∀ ts : List Tok, (tcells ts).length = ts.length * 4
  | [] => rfl
  | t :: ts => by
    have := tcells_len ts
    simp only [tcells, tcell, List.length_append, List.length_cons, List.length_nil, this]
    omega
theorem tcells_append : ∀ (a b : List Tok), tcells (a ++ b) = tcells a ++ tcells b
  | [], b => rfl
  | t :: ts, b => by simp [tcells, tcells_append ts b]
theorem tcells_at : ∀ (ts : List Tok) (i : Nat) (t : Tok), ts[i]? = some t → ∀ j, j < 4 → (tcells ts)[i * 4 + j]? = (tcell t)[j]?
  | [], i, t, h => by simp at h
  | u :: ts, 0, t, h => by
    intro j hj
    obtain rfl : u = t := by simpa using h
    simp only [tcells, Nat.zero_mul, Nat.zero_add]
    rw [List.getElem?_append_left (by simpa [tcell] using hj)]
  | u :: ts, i + 1, t, h => by
    intro j hj
    have := tcells_at ts i t (by simpa using h) j hj
    simp only [tcells]
    rw [List.getElem?_append_right (by simp [tcell]; omega), ← this]
    congr 1
    simp [tcell]; omega
/-- A row of tokens that was made since w. -/
structure TRow (w W : World) (v : Value) (ts : List Tok) : Prop where
  own : W.ownsRow w.heap.size 111 4 v ts.length (tcells ts)
  kp : Kp w W
theorem TRow.start (w : World) : TRow w w (.slice none 0 0) [] := ⟨World.ownsRow_nil _ _ _ _, Kp.refl _⟩
theorem TRow.keep {w W W' : World} {v : Value} {ts : List Tok} (h : TRow w W v ts) (hk : Kp W W') : TRow w W' v ts := by
  refine ⟨⟨h.own.1, ?_⟩, Kp.trans h.kp hk⟩
  rcases h.own.2 with hn | ⟨g, cap, cur, e, hb, hg, r⟩
  · exact .inl hn
  · exact .inr ⟨g, cap, cur, e, hb, by rw [hk.block g (lt_of_block hg)]; exact hg, r⟩
theorem TRow.form {w W : World} {v : Value} {ts : List Tok} (h : TRow w W v ts) : ∃ ao cap, v = .slice ao ts.length cap ∧ ts.length ≤ cap := by
  rcases h.own.2 with ⟨rfl, h0⟩ | ⟨g, cap, cur, rfl, hb, hg, hnc, hcm, hsz, htake⟩
  · exact ⟨none, 0, by rw [h0], by omega⟩
  · exact ⟨_, cap, rfl, hnc⟩
theorem infoT : (Tryz.prog.info? 111).map (fun i => (i.zero, i.size, i.bytes)) = some (some (.agg #[.int .i64 0, .string ⟨#[]⟩, .int .i64 0, .int .i64 0]), 4, 40) := by kernel_rfl
/-- append of a token. -/
theorem wpList_tok {w wx : World} {ops : Array Oper} {rest : List Oper} {o : Oper} {a : Act} {Q : Exit → Act → World → Prop} (hgd : o.guard = none) (s x : Operand)
    (ho : o.op = .call { callee := .builtin .append, args := #[s, x], argTypes := #[80, 80] })
    (v : Value) (ts : List Tok) (hs : a.eval s = v) (hown : TRow w wx v ts) (t : Tok) (g : Nat) (hx : a.eval x = .slice (some ⟨g, 0, none⟩) 1 1)
    (hc : Blk wx g 111 (tcell t).toArray) (hn : ts.length ≤ 100000)
    (h : ∀ v' w', TRow w w' v' (ts ++ [t]) → wpList Tryz.prog ops Q rest (a.put o.dst v') w') : wpList Tryz.prog ops Q (o :: rest) a wx := by
  obtain ⟨i, hi, hz, hsize, hby⟩ := info_parts infoT
  refine wpList_append_own_at (P := Tryz.prog) wx hgd s x _ ho w.heap.size _ i _ 4 40 Tryz.underlying80 hi hz hsize hby rfl (by omega) v ts.length (tcells ts) hs hown.own ⟨g, 0, none⟩ 1 1 (tcell t) hx rfl ?_ ?_ (by unfold maxLen; omega) (by omega) hown.kp.size ?_
  · intro j u hu
    rw [Addr.add_lit]
    refine hc.cell (0 + j) ?_
    rw [Nat.zero_add]
    simpa using hu
  · intro u hu
    simp only [tcell, List.mem_cons, List.not_mem_nil, or_false] at hu
    rcases hu with rfl | rfl | rfl | rfl <;> rfl
  · intro v' w' h1 h2 h3 h4
    refine h v' w' ⟨?_, ?_⟩
    · rw [List.length_append, tcells_append, List.length_singleton]
      have e : tcells [t] = tcell t := by simp [tcells]
      rw [e]; exact h1
    · exact Below.grown hown.kp h2 hown.kp.size (fun k hk => (hown.own.lt k hk).1)
/-- The place of a token's cell. -/
theorem TRow.cell {w W : World} {v : Value} {ts : List Tok} (h : TRow w W v ts) (hn : 0 < ts.length) : ∃ g cap, v = .slice (some ⟨g, 0, none⟩) ts.length cap ∧ ts.length ≤ cap ∧ w.heap.size ≤ g ∧ g < W.heap.size ∧ ∀ i t, ts[i]? = some t → ∀ j u, (tcell t)[j]? = some u → W.cell? ⟨g, i * 4 + j, none⟩ = some u := by
  rcases h.own.2 with ⟨rfl, h0⟩ | ⟨g, cap, cur, rfl, hb, hg, hnc, hcm, hsz, htake⟩
  · omega
  · refine ⟨g, cap, rfl, hnc, hb, lt_of_block hg, fun i t ht j u hu => ?_⟩
    have hj : j < 4 := by
      rcases Nat.lt_or_ge j 4 with h | h
      · exact h
      · rw [List.getElem?_eq_none (by simpa [tcell] using h)] at hu; cases hu
    have hi : i < ts.length := by
      rcases Nat.lt_or_ge i ts.length with h | h
      · exact h
      · rw [List.getElem?_eq_none h] at ht; cases ht
    rw [cell_of_row W g _ _ _ (0, 0) hg, ← Array.getElem?_toList]
    have h1 := tcells_at ts i t ht j hj
    rw [hu, ← htake, List.getElem?_take, if_pos (by omega)] at h1
    exact h1
end By
end Go.Proofs.YtmflgfojicaecaaGreatDoor
