/- Strings as lists of bytes, and the way to bytes and back. Condition: a slice holds the bytes that are named. -/
import Derived.Test.YtfobogcccbddbaaGreatDoorZaa
import Derived.Lib.ConvBytes
import Derived.Laws.BytesArg
import Derived.Lib.AppendZerosOnto
import Derived.Lib.AppendZeros
import Derived.Lib.SliceRun
import Derived.Lib.BufferMore
import Derived.Maps.AppendAt
import Derived.Deep.RegionHeld3
import Derived.RegionTactic
import Derived.Outline
import Derived.Carry
import Derived.Maps.Own
import Derived.Maps.OwnSet
import Derived.Maps.Views
import Derived.Maps.Range
import Derived.Sort.KeysCollected
namespace Go.Proofs.YtfobogcccbddbaaGreatDoor
namespace By
open Go.RowKit WireN
set_option linter.unusedVariables false
set_option linter.unusedSimpArgs false

/-- The bytes of a string, and the string of bytes. -/
def bs (s : ByteArray) : List Nat := s.data.toList.map UInt8.toNat
def st (xs : List Nat) : ByteArray := ⟨(xs.map fun n => UInt8.ofNat n).toArray⟩
theorem bs_len (s : ByteArray) : (bs s).length = s.size := by unfold bs; rw [List.length_map]; rfl
theorem bs_lt (s : ByteArray) : Lt (bs s) := lt_of_mem fun x hx => by
  obtain ⟨u, _, rfl⟩ := List.mem_map.1 hx
  exact u.toNat_lt
theorem st_size (xs : List Nat) : (st xs).size = xs.length := by show (xs.map fun n => UInt8.ofNat n).toArray.size = _; simp
theorem bs_st {xs : List Nat} (h : Lt xs) : bs (st xs) = xs := by
  simp only [bs, st, List.map_map]
  refine (List.map_congr_left fun x hx => ?_).trans (List.map_id _)
  have := h.mem hx
  simp; omega
theorem st_bs (s : ByteArray) : st (bs s) = s := by
  cases s with
  | mk d =>
    simp only [bs, st, List.map_map]
    congr 1
    have : ((fun n => UInt8.ofNat n) ∘ UInt8.toNat) = (id : UInt8 → UInt8) := by funext u; simp
    rw [this]; simp
theorem bs_get (s : ByteArray) (j : Nat) (hj : j < s.size) : ((s.data.toList.getD j 0).toNat : Nat) = (bs s)[j]?.getD 0 := by
  have h : j < s.data.toList.length := hj
  rw [bs, List.getD_eq_getElem?_getD, List.getElem?_map, List.getElem?_eq_getElem h]
  rfl
theorem st_strOfNums (xs : List Nat) : strOfNums (xs.map fun (x : Nat) => (x : Int)) = st xs := by
  simp [strOfNums, st, List.map_map, Function.comp_def]
/-- string(v) -/
theorem conv_str {w : World} {v : Value} {xs : List Nat} (h : Sl w v xs) : (convert 118 9 v).run Tryz.prog w = .ok (.string (st xs)) w := by
  obtain ⟨⟨ao, cap, rfl, h2, h3, h4, h5⟩, hl, hs⟩ := h
  rcases h4 with rfl | ⟨b, off, rfl, hc⟩
  · cases ao with
    | none => exact run_convert_bytes_nil w 118 5 Tryz.underlying118 Tryz.underlying5 0 cap 9 Tryz.underlying9
    | some a =>
      show (convert 118 9 (.slice (some a) 0 cap)).run Tryz.prog w = _
      rw [run_convert_bytes_string w 118 9 5 (some a) 0 cap Tryz.underlying118 Tryz.underlying5 Tryz.underlying9]
      rw [run_bytesToString w a 0 cap [] (by simpa using run_loadCells_list (P := Tryz.prog) w a [] (fun j v hj => by simp at hj))]
      rfl
  · have := run_convert_bytes_arg w 118 5 Tryz.underlying118 Tryz.underlying5 b off xs.length cap (xs.map fun (x : Nat) => (x : Int)) (by simp) (fun i hi => by
      rw [hc i hi]; simp [List.getD, List.getElem?_eq_getElem hi]) 9 Tryz.underlying9
    rw [st_strOfNums] at this
    exact this
/-- []byte(s) -/
theorem kp_bytesWorld (w : World) (e : TypeId) (s : ByteArray) : Kp w (Lib.bytesWorld w e s) :=
  ⟨rfl, rfl, rfl, by rw [Lib.bytesWorld_size]; omega, fun k hk => Lib.bytesWorld_at_old w e s k hk⟩
theorem sl_bytesWorld (w : World) (s : ByteArray) (hs : s.size ≤ 140737488355328) : Sl (Lib.bytesWorld w 5 s) (.slice (some ⟨w.heap.size, 0, none⟩) s.size (grownCap w s.size 0 5)) (bs s) := by
  have h1 := grownCap_ge w s.size 0 5
  have h2 := grownCap_le_maxLen w s.size 0 5 (by unfold maxLen; omega)
  refine ⟨⟨some ⟨w.heap.size, 0, none⟩, grownCap w s.size 0 5, by rw [bs_len], by rw [bs_len]; exact h1, h2, ?_, fun h => nomatch h⟩, bs_lt s, by rw [bs_len]; exact hs⟩
  refine .inr ⟨w.heap.size, 0, rfl, fun i hi => ?_⟩
  rw [bs_len] at hi
  rw [Nat.zero_add, Lib.bytesWorld_cell w _ s i hi, bs_get s i hi]
end By
end Go.Proofs.YtfobogcccbddbaaGreatDoor

/- The program's bytes of numbers: number, folded, unfolded, shortest, joined. Conditions: 64-bit integers; the slices hold the bytes that are named. -/
namespace Go.Proofs.YtfobogcccbddbaaGreatDoor
namespace By
open Go.RowKit WireN
set_option linter.unusedVariables false
set_option linter.unusedSimpArgs false

theorem uv_step {zs : List Nat} {m : Nat} {X : List Nat} (h : zs ++ uv m = X) (hm : 128 ≤ m) : (zs ++ [m % 128 + 128]) ++ uv (m / 128) = X := by
  rw [← h, uv_ge hm]; simp

theorem sl_cell {w : World} {ao : Option Addr} {n cap : Nat} {xs : List Nat} (h : Sl w (.slice ao n cap) xs) (hx : 0 < n) :
    ∃ b off, ao = some ⟨b, off, none⟩ ∧ ∀ i : Nat, i < n → w.cell? ⟨b, off + i, none⟩ = some (.int .u8 (xs[i]?.getD 0 : Nat)) := by
  obtain ⟨⟨ao', cap', h1, h2, h3, h4, h5⟩, hl, hs⟩ := h
  simp only [Value.slice.injEq] at h1
  obtain ⟨rfl, rfl, rfl⟩ := h1
  exact h4.cells hx

/-- the index of the last byte of a number, or -1. -/
def idxF (xs : List Nat) : Int := if on xs = xs.length then -1 else (on xs : Int)
end By
end Go.Proofs.YtfobogcccbddbaaGreatDoor

/- The tape of small numbers that the laws draw from: Fold, Next, Text. Conditions: the tape lies in memory as it is named, and has been read fewer than a million times. -/
namespace Go.Proofs.YtfobogcccbddbaaGreatDoor
namespace By
open Go.RowKit WireN
set_option linter.unusedVariables false
set_option linter.unusedSimpArgs false

/-- A slice that reads as 64-bit integers. -/
def AtI (w : World) (ao : Option Addr) (zs : List Int) : Prop :=
  zs = [] ∨ ∃ b off, ao = some ⟨b, off, none⟩ ∧ ∀ i : Nat, i < zs.length → w.cell? ⟨b, off + i, none⟩ = some (.int .i64 (zs[i]?.getD 0))
structure SlI (w : World) (v : Value) (zs : List Int) : Prop where
  ex : ∃ ao cap, v = .slice ao zs.length cap ∧ zs.length ≤ cap ∧ cap ≤ maxLen ∧ AtI w ao zs
  lt : ∀ i : Nat, -9223372036854775808 ≤ zs[i]?.getD 0 ∧ zs[i]?.getD 0 ≤ 9223372036854775807
  sm : zs.length ≤ 17592186044416
theorem AtI.keep {w w' : World} {ao : Option Addr} {zs : List Int} (h : AtI w ao zs) (hk : Kp w w') : AtI w' ao zs := by
  rcases h with rfl | ⟨b, off, rfl, h⟩
  · exact .inl rfl
  · exact .inr ⟨b, off, rfl, fun i hi => cell_kept (h i hi) hk⟩
theorem SlI.keep {w w' : World} {v : Value} {zs : List Int} (h : SlI w v zs) (hk : Kp w w') : SlI w' v zs := by
  obtain ⟨⟨ao, cap, h1, h2, h3, h4⟩, hl, hs⟩ := h
  exact ⟨⟨ao, cap, h1, h2, h3, h4.keep hk⟩, hl, hs⟩

/-- Only block g has changed, and new memory was made. -/
abbrev Gr (g : Nat) (w w' : World) : Prop := w.grownBy w' (some g)
theorem Gr.refl (g : Nat) (w : World) : Gr g w w := World.grownBy.refl w _
theorem Gr.trans {g : Nat} {a b c : World} (h : Gr g a b) (k : Gr g b c) : Gr g a c :=
  ⟨k.os.trans h.os, k.tape.trans h.tape, k.output.trans h.output, Nat.le_trans h.size k.size, fun i hi hne => (k.block i (Nat.lt_of_lt_of_le hi h.size) hne).trans (h.block i hi hne)⟩
theorem Only.gr {g : Nat} {a b : World} (h : Only g a b) : Gr g a b := ⟨h.os, h.tape, h.output, Nat.le_of_eq h.size, fun i _ hne => h.block i (fun e => hne (by rw [e]))⟩
theorem Kp.gr {a b : World} (h : Kp a b) (g : Nat) : Gr g a b := ⟨h.os, h.tape, h.output, h.size, fun i hi _ => h.block i hi⟩
theorem Gr.kp {g : Nat} {a b c : World} (h : Gr g b c) (hk : Kp a b) (hg : a.heap.size ≤ g) : Kp a c :=
  Below.trans hk ⟨h.os, h.tape, h.output, h.size, fun k hk' => h.block k (Nat.lt_of_lt_of_le hk' hk.size) (fun e => by injection e; omega)⟩
theorem Gr.by {g : Nat} {a b c : World} {row : Option Nat} (h : Gr g a b) (k : b.grownBy c row) (hr : ∀ r, row = some r → a.heap.size ≤ r) : Gr g a c :=
  ⟨k.os.trans h.os, k.tape.trans h.tape, k.output.trans h.output, Nat.le_trans h.size k.size, fun i hi hne => (k.block i (Nat.lt_of_lt_of_le hi h.size) (fun e => by have := hr _ e.symm; omega)).trans (h.block i hi hne)⟩
theorem Blk.by {w w' : World} {r : Nat} {t : TypeId} {cs : Array Value} {row : Option Nat} (h : Blk w r t cs) (hg : w.grownBy w' row) (hne : some r ≠ row) : Blk w' r t cs := (hg.block r h.lt hne).trans h

/-- The tape in block g. -/
structure Tp (w0 w : World) (g : Nat) (at' : Nat) : Prop where
  ex : ∃ ao len cap zs, SlI w0 (.slice ao len cap) zs ∧ Blk w g 30 #[.slice ao len cap, .int .i64 (at' : Nat)]
  kp : Kp w0 w
  ge : w0.heap.size ≤ g
theorem Tp.gr {w0 w w' : World} {g at' r : Nat} (h : Tp w0 w g at') (hg : w.grownBy w' (some r)) (hr : w0.heap.size ≤ r) (hne : g ≠ r) : Tp w0 w' g at' := by
  obtain ⟨ao, len, cap, zs, hs, hb⟩ := h.ex
  exact ⟨⟨ao, len, cap, zs, hs, hb.by hg (fun e => hne (by injection e))⟩, Gr.kp hg h.kp hr, h.ge⟩
theorem Tp.keep {w0 w w' : World} {g at' : Nat} (h : Tp w0 w g at') (hk : Kp w w') : Tp w0 w' g at' := by
  obtain ⟨ao, len, cap, zs, hs, hb⟩ := h.ex
  exact ⟨⟨ao, len, cap, zs, hs, hb.keep hk⟩, Kp.trans h.kp hk, h.ge⟩
theorem Tp.by {w0 w w' : World} {g at' : Nat} {row : Option Nat} (h : Tp w0 w g at') (hg : w.grownBy w' row) (hr : ∀ r, row = some r → w0.heap.size ≤ r ∧ g ≠ r) : Tp w0 w' g at' := by
  obtain ⟨ao, len, cap, zs, hs, hb⟩ := h.ex
  refine ⟨⟨ao, len, cap, zs, hs, hb.by hg (fun e => (hr g e.symm).2 rfl)⟩, ?_, h.ge⟩
  exact Below.grown h.kp hg h.kp.size (fun k hk => (hr k hk).1)

set_option maxRecDepth 100000 in
set_option maxHeartbeats 400000 in
theorem Fold_any (v : Int) (hv : -9223372036854775808 ≤ v ∧ v ≤ 9223372036854775807) (n : Nat) (hn : 2 ≤ n) (hn2 : n ≤ 1000000) (w : World) :
    Calls Tryz.prog 54 #[.int .i64 v, .int .i64 n] w fun e w' => (∃ r : Nat, r < n ∧ e = .returned (.int .i64 r)) ∧ w = w' := by
  obtain ⟨h1, h2⟩ := hv
  by_cases h : v < 0
  · obtain ⟨u, hu⟩ : ∃ u : Nat, v = -(u : Int) := ⟨(-v).toNat, by omega⟩
    subst hu
    have ht : (-(u : Int)).tmod (n : Int) = -((u % n : Nat) : Int) := by rw [Int.neg_tmod, Int.natCast_emod]; rfl
    have hlt : u % n < n := Nat.mod_lt _ (by omega)
    obtain ⟨m, hm⟩ : ∃ m, m = u % n := ⟨_, rfl⟩
    rw [← hm] at ht hlt
    have HT := Lib.hid ht
    clear hm ht
    by_cases h0 : m = 0
    · subst h0
      have ht : (-(u : Int)).tmod (n : Int) = 0 := by rw [HT.out]; rfl
      go_enter Tryz.func54, Tryz.ntmps54
      go_wp2_with fail
      go_ret
      exact ⟨⟨0, by omega, rfl⟩, rfl⟩
    · have ht := HT.out
      go_enter Tryz.func54, Tryz.ntmps54
      go_wp2_with fail
      go_ret
      exact ⟨⟨n - m, by omega, ret_int (by omega)⟩, rfl⟩
  · obtain ⟨u, hu⟩ : ∃ u : Nat, v = (u : Int) := ⟨v.toNat, by omega⟩
    subst hu
    have hlt : u % n < n := Nat.mod_lt _ (by omega)
    have HLT := Lib.hid hlt
    clear hlt
    go_enter Tryz.func54, Tryz.ntmps54
    go_wp2_with fail
    go_ret
    exact ⟨⟨u % n, HLT.out, ret_int (by simp)⟩, rfl⟩

set_option maxRecDepth 100000 in
set_option maxHeartbeats 1000000 in
theorem TNext_any {w0 w : World} {g at' : Nat} (ht : Tp w0 w g at') (ha : at' < 1000000) (n : Nat) (hn : 2 ≤ n) (hn2 : n ≤ 1000000) :
    Calls Tryz.prog 22 #[.pointer (some ⟨g, 0, none⟩), .int .i64 n] w fun e w' => (∃ r : Nat, r < n ∧ e = .returned (.int .i64 r)) ∧ Tp w0 w' g (at' + 1) ∧ Only g w w' := by
  obtain ⟨ao, len, cap, zs, hs, hb⟩ := ht.ex
  obtain ⟨⟨ao', cap', e0, hc, hm, hat⟩, hlt, hsm⟩ := hs
  simp only [Value.slice.injEq] at e0
  obtain ⟨rfl, rfl, rfl⟩ := e0
  have HFIN : Hid (∀ (n1 : Nat) (w1 : World) (A : Int), A = ((at' + 1 : Nat) : Int) → w1 = ((w.drewN n1).setCell ⟨g, 1, none⟩ (.int .i64 A)) → Tp w0 w1 g (at' + 1) ∧ Only g w w1) := by
    intro n1 w1 A hA hw1
    subst hA hw1
    have ho : Only g w ((w.drewN n1).setCell ⟨g, 1, none⟩ (.int .i64 ((at' + 1 : Nat) : Int))) := Only.set (Only.drewN (Only.refl g w) n1) 1 _
    exact ⟨⟨⟨ao, zs.length, cap, zs, ⟨⟨ao, cap, rfl, hc, hm, hat⟩, hlt, hsm⟩, (hb.drewN n1).set 1 _⟩, Only.kp ht.kp ho ht.ge, ht.ge⟩, ho⟩
  have c0 := hb.cell 0 rfl; have c1 := hb.cell 1 rfl; have f1 := hb.free 1
  obtain ⟨len, hlen⟩ : ∃ len, len = zs.length := ⟨_, rfl⟩
  rw [← hlen] at c0 hc hsm
  by_cases hal : at' < len
  · obtain ⟨b, off, rfl, hcell⟩ : ∃ b off, ao = some ⟨b, off, none⟩ ∧ ∀ i : Nat, i < zs.length → w0.cell? ⟨b, off + i, none⟩ = some (.int .i64 (zs[i]?.getD 0)) := by
      rcases hat with h | h
      · rw [h] at hlen; simp at hlen; omega
      · exact h
    have cz := cell_kept (hcell at' (by omega)) ht.kp
    have hz := hlt at'
    obtain ⟨z, ez⟩ : ∃ z, z = zs[at']?.getD 0 := ⟨_, rfl⟩
    rw [← ez] at cz hz
    clear ez hcell hat hlt ht hb hlen hm
    go_enter Tryz.func22, Tryz.ntmps22
    go_wp2_with fail
    go_quiet (fail)
    go_wp2_with fail
    go_quiet (fail)
    go_wp2_with fail
    refine (Fold_any z hz n hn hn2 _).mono ?_
    rintro e w' ⟨⟨r, hr, rfl⟩, rfl⟩
    go_wp2_with fail
    go_ret
    exact ⟨⟨r, hr, rfl⟩, HFIN.out _ _ _ (by omega) rfl⟩
  · clear hat hlt ht hb hlen hm
    go_enter Tryz.func22, Tryz.ntmps22
    go_wp2_with fail
    go_quiet (fail)
    go_wp2_with fail
    refine (Fold_any ((at' : Int) * 7 % 11) (by omega) n hn hn2 _).mono ?_
    rintro e w' ⟨⟨r, hr, rfl⟩, rfl⟩
    go_wp2_with fail
    go_ret
    exact ⟨⟨r, hr, rfl⟩, HFIN.out _ _ _ (by omega) rfl⟩

/-- What is appended to, in memory that was made since w. -/
structure OwG (w wr : World) (v : Value) (zs : List Nat) : Prop where
  owns : wr.ownsRow w.heap.size 5 1 v zs.length (U zs)
  lt : Lt zs
theorem OwG.form {w wr : World} {v : Value} {zs : List Nat} (h : OwG w wr v zs) : ∃ ao cap, v = .slice ao zs.length cap := by
  rcases h.owns.2 with ⟨rfl, h0⟩ | ⟨g, cap, cur, rfl, hb, hg, hnc, hcm, hsz, htake⟩
  · exact ⟨none, 0, by rw [h0]⟩
  · exact ⟨_, cap, rfl⟩
theorem OwG.kept {w wr w1 : World} {v : Value} {zs : List Nat} {g : Nat} (h : OwG w wr v zs) (hg : Gr g wr w1) (hlt : g < w.heap.size) : OwG w w1 v zs := by
  refine ⟨h.owns.kept hg ?_, h.lt⟩
  rcases h.owns.2 with ⟨rfl, _⟩ | ⟨g', cap', cur, rfl, hb', _⟩
  · exact .inl rfl
  · right; intro e; simp [Value.ownBlock] at e; omega
theorem at_one {w : World} {D : Int} {e : TypeId} {d : Nat} (h : D = (d : Int)) : At (w.alloc (.cells #[.int .u8 D] e)) (some ⟨w.heap.size, 0, none⟩) [d] := by
  subst h
  refine .inr ⟨w.heap.size, 0, rfl, fun i hi => ?_⟩
  obtain rfl : i = 0 := by simpa using hi
  rw [cell_of_row _ w.heap.size 0 _ e (0, 0) (heap_alloc_new w _)]
  simp
set_option maxRecDepth 100000 in
set_option maxHeartbeats 2000000 in
theorem TText_any {w0 w : World} {g at' : Nat} (ht : Tp w0 w g at') (n : Nat) (ha : at' + n < 1000000) (s : ByteArray) (hs : 2 ≤ s.size) (hs2 : s.size ≤ 1000) :
    Calls Tryz.prog 74 #[.pointer (some ⟨g, 0, none⟩), .int .i64 n, .string s] w fun e w' => (∃ xs : List Nat, xs.length = n ∧ Lt xs ∧ e = .returned (.string (st xs))) ∧ Tp w0 w' g (at' + n) ∧ Gr g w w' := by
  have HT := Lib.hid ht
  have hgw : g < w.heap.size := by obtain ⟨_, _, _, _, _, hb⟩ := ht.ex; exact hb.lt
  have hge := ht.ge
  clear ht
  obtain ⟨l, el⟩ : ∃ l, l = s.size := ⟨_, rfl⟩
  have qs : ∀ w, (Builtin.len_ #[9] 3 #[.string s]).run Tryz.prog w = .ok (goInt l) w := fun w => by rw [run_len_string w _ _ s Tryz.underlying9, el]
  have EL := Lib.hid el
  rw [← el] at hs hs2
  clear el
  go_enter Tryz.func74, Tryz.ntmps74
  go_wp2_with fail
  go_loopw [8, 7] (fun i v wy => ∃ (k : Nat) (zs : List Nat), k ≤ n ∧ i = .int .i64 k ∧ zs.length = k ∧ OwG w wy v zs ∧ Tp w0 wy g (at' + k) ∧ Gr g w wy) (fun i _ _ => n - (intOf i).toNat)
  case atStart => exact ⟨0, [], Nat.zero_le _, rfl, rfl, ⟨World.ownsRow_nil _ _ _ _, Lt.nil⟩, HT.out, Gr.refl _ _⟩
  case round =>
    obtain ⟨k, zs, hk, rfl, hzl, hown, htp, hgr⟩ := hrel
    rename World => wx
    have HOWN := Lib.hid hown; have HTP := Lib.hid htp; have HGR := Lib.hid hgr; have HZL := Lib.hid hzl
    clear hown htp hgr hzl
    by_cases hkn : k < n
    · go_wp2_with fail
      refine (TNext_any HTP.out (by omega) l hs (by omega)).mono ?_
      rintro e w1 ⟨⟨r, hr, rfl⟩, htp1, ho1⟩
      have HTP1 := Lib.hid htp1; have HO1 := Lib.hid ho1
      clear htp1 ho1
      have hx : ∀ w, (Instr.index 9 (.string s) (.int .i64 (r : Int))).run Tryz.prog w = .ok (.int .u8 ((bs s)[r]?.getD 0 : Nat)) w := by
        intro w
        have hrs : r < s.size := by have := EL.out; omega
        rw [run_index_string w 9 s .i64 r Tryz.underlying9, dif_pos (by omega), ← bs_get s r hrs]
        have h1 : r < s.data.toList.length := hrs
        rw [List.getD_eq_getElem?_getD, List.getElem?_eq_getElem h1]
        rfl
      have hxb := bs_lt s r
      obtain ⟨x, ex⟩ : ∃ x, x = (bs s)[r]?.getD 0 := ⟨_, rfl⟩
      rw [← ex] at hxb
      simp only [← ex] at hx
      clear ex
      have HOWN1 := Lib.hid (HOWN.out.kept (Only.gr HO1.out) hgw)
      obtain ⟨ao, cp, hfo⟩ := HOWN.out.form
      subst hfo
      have HSZ : Hid (w.heap.size ≤ w1.heap.size) := by have := HGR.out.size; have := HO1.out.size; show _ ≤ _; omega
      go_wp2_with (at_builtin; refine wpList_app rfl (.tmp 14) (.tmp 21) 118 rfl Tryz.underlying118 w.heap.size _ zs.length zs rfl (HOWN1.out.owns.alloc _) (some ⟨_, 0, none⟩) 1 1 [x] rfl rfl (at_one rfl) (fun h => nomatch h) (by have := HZL.out; omega) (by have := HSZ.out; simp; omega) ?_)
      intro v' w2 hown2 hgr2
      have hkk := kp_alloc w1 (.cells #[.int .u8 (x : Nat)] 5)
      have hrow : ∀ r, (Value.slice ao zs.length cp).ownBlock = some r → w.heap.size ≤ r := fun r hr => (HOWN1.out.owns.lt r hr).1
      have HN : Hid (OwG w w2 v' (zs ++ [x]) ∧ Tp w0 w2 g (at' + k + 1) ∧ Gr g w w2) :=
        ⟨⟨by rw [List.length_append]; exact hown2, HOWN1.out.lt.append (Lt.one hxb)⟩, (HTP1.out.keep hkk).by hgr2 (fun r hr => ⟨by have := hrow r hr; omega, by have := hrow r hr; omega⟩),
          Gr.by (Gr.trans (Gr.trans HGR.out (Only.gr HO1.out)) (hkk.gr g)) hgr2 hrow⟩
      have HZ2 : Hid ((zs ++ [x]).length = k + 1) := by show _ = _; have := HZL.out; simp; omega
      clear hown2 hgr2 hkk hrow
      go_wp2_with fail
      go_roundw
      case rel => exact ⟨k + 1, zs ++ [x], by omega, by go_num, HZ2.out, HN.out.1, HN.out.2.1, HN.out.2.2⟩
      case measure => simp [intOf]; omega
    · obtain rfl : k = n := by omega
      have hlz := HZL.out
      have hcv := conv_str (sl_of_owns HOWN.out.owns HOWN.out.lt (by omega)).1
      have HOWL := Lib.hid HOWN.out.lt
      obtain ⟨S, hS⟩ : ∃ S, S = st zs := ⟨_, rfl⟩
      rw [← hS] at hcv
      have HSE := Lib.hid hS
      clear hlz hS
      go_wp2_with fail
      go_ret
      exact ⟨⟨zs, HZL.out, HOWL.out, by rw [← HSE.out]; rfl⟩, HTP.out, HGR.out⟩
end By
end Go.Proofs.YtfobogcccbddbaaGreatDoor

/- slices.Grow of nil and slices.Concat of two or three lists of bytes. Condition: together less than 2^46 bytes. -/
namespace Go.Proofs.YtfobogcccbddbaaGreatDoor
namespace By
open Go.RowKit WireN
set_option linter.unusedVariables false
set_option linter.unusedSimpArgs false

theorem own_grown (w : World) (n : Nat) (hn : n ≤ 70368744177664) :
    Own w (w.alloc (.cells (Builtin.zeroCells #[Value.int .u8 0] n ++ Builtin.zeroCells #[Value.int .u8 0] (grownCap w n 0 5 - n)) 5)).drew
      (.slice (some ⟨w.heap.size, 0, none⟩) 0 (grownCap w n 0 5)) [] := by
  have h1 := grownCap_ge w n 0 5
  have h2 := grownCap_le_maxLen w n 0 5 (by unfold maxLen; omega)
  refine ⟨⟨rfl, .inr ⟨w.heap.size, grownCap w n 0 5, _, rfl, Nat.le_refl _, heap_alloc_new w _, Nat.zero_le _, h2, ?_, rfl⟩⟩, Lt.nil, ?_⟩
  · simp [size_zeroCells]; omega
  · exact Kp.trans (kp_alloc w _) (Kp.drewN _ 1)

/-- A list of slices of bytes in memory, below block B. -/
structure Lists (w : World) (a : Option Addr) (xss : List (List Nat)) : Prop where
  ex : ∃ b, a = some ⟨b, 0, none⟩ ∧ ∃ vs : List Value, vs.length = xss.length ∧ (∀ i, i < xss.length → w.cell? ⟨b, i, none⟩ = some (vs[i]?.getD (.slice none 0 0)) ∧ Sl w (vs[i]?.getD (.slice none 0 0)) (xss[i]?.getD []))
theorem Lists.at_ {w : World} {a : Option Addr} {xss : List (List Nat)} (h : Lists w a xss) : ∃ b, a = some ⟨b, 0, none⟩ ∧ ∀ i, i < xss.length → ∃ v, w.cell? ⟨b, i, none⟩ = some v ∧ Sl w v (xss[i]?.getD []) := by
  obtain ⟨b, rfl, vs, hl, hc⟩ := h
  exact ⟨b, rfl, fun i hi => ⟨_, hc i hi⟩⟩
theorem Lists.keep {w w' : World} {a : Option Addr} {xss : List (List Nat)} (h : Lists w a xss) (hk : Kp w w') : Lists w' a xss := by
  obtain ⟨b, rfl, vs, hl, hc⟩ := h
  exact ⟨b, rfl, vs, hl, fun i hi => ⟨(hk.cell (World.block_lt_of_cell? w _ (hc i hi).1)).trans (hc i hi).1, (hc i hi).2.keep hk⟩⟩
theorem Lists.two {w : World} {e : TypeId} {v0 v1 : Value} {xs ys : List Nat} (h0 : Sl w v0 xs) (h1 : Sl w v1 ys) : Lists (w.alloc (.cells #[v0, v1] e)) (some ⟨w.heap.size, 0, none⟩) [xs, ys] := by
  refine ⟨_, rfl, [v0, v1], rfl, fun i hi => ?_⟩
  rw [cell_of_row _ w.heap.size i _ e (0, 0) (heap_alloc_new w _)]
  have hi' : i < 2 := hi
  match i, hi' with
  | 0, _ => exact ⟨rfl, h0.keep (kp_alloc _ _)⟩
  | 1, _ => exact ⟨rfl, h1.keep (kp_alloc _ _)⟩
theorem Lists.three {w : World} {e : TypeId} {v0 v1 v2 : Value} {xs ys zs : List Nat} (h0 : Sl w v0 xs) (h1 : Sl w v1 ys) (h2 : Sl w v2 zs) : Lists (w.alloc (.cells #[v0, v1, v2] e)) (some ⟨w.heap.size, 0, none⟩) [xs, ys, zs] := by
  refine ⟨_, rfl, [v0, v1, v2], rfl, fun i hi => ?_⟩
  rw [cell_of_row _ w.heap.size i _ e (0, 0) (heap_alloc_new w _)]
  have hi' : i < 3 := hi
  match i, hi' with
  | 0, _ => exact ⟨rfl, h0.keep (kp_alloc _ _)⟩
  | 1, _ => exact ⟨rfl, h1.keep (kp_alloc _ _)⟩
  | 2, _ => exact ⟨rfl, h2.keep (kp_alloc _ _)⟩
/-- all bytes of the first lists -/
def cat (xss : List (List Nat)) (k : Nat) : List Nat := (xss.take k).flatten
theorem cat_succ {xss : List (List Nat)} {k : Nat} (h : k < xss.length) : cat xss (k + 1) = cat xss k ++ xss[k]?.getD [] := by
  unfold cat
  rw [List.take_succ_eq_append_getElem h, List.flatten_append, List.getElem?_eq_getElem h]
  simp
theorem cat_len_le (xss : List (List Nat)) (k : Nat) : (cat xss k).length ≤ xss.flatten.length := by
  have h : xss.flatten = cat xss k ++ (xss.drop k).flatten := by unfold cat; rw [← List.flatten_append, List.take_append_drop]
  rw [h, List.length_append]; omega
theorem cat_all {xss : List (List Nat)} {k : Nat} (h : xss.length ≤ k) : cat xss k = xss.flatten := by unfold cat; rw [List.take_of_length_le h]

end By
end Go.Proofs.YtfobogcccbddbaaGreatDoor

/- Strings as bytes and back; the program's PutUint, PutInt and PutText. Conditions: the slices hold the bytes that are named; together less than 2^46 bytes. -/
namespace Go.Proofs.YtfobogcccbddbaaGreatDoor
namespace By
open Go.RowKit WireN
end By
end Go.Proofs.YtfobogcccbddbaaGreatDoor

/- A row's form, and when two strings are equal. No condition. -/
namespace Go.Proofs.YtfobogcccbddbaaGreatDoor
namespace By
open Go.RowKit WireN
set_option linter.unusedVariables false
set_option linter.unusedSimpArgs false

theorem row_form {W : World} {base : Nat} {e : TypeId} {size : Nat} {v : Value} {n : Nat} {cs : List Value} (h : W.ownsRow base e size v n cs) : (∃ ao l c, v = .slice ao l c) ∧ ∀ g, v.ownBlock = some g → base ≤ g ∧ g < W.heap.size := by
  refine ⟨?_, fun g hg => h.lt g hg⟩
  rcases h.2 with ⟨rfl, _⟩ | ⟨g', cap', cur, rfl, _⟩
  · exact ⟨_, _, _, rfl⟩
  · exact ⟨_, _, _, rfl⟩
theorem st_inj' {xs ys : List Nat} (hx : Lt xs) (hy : Lt ys) : ((st xs).toList == (st ys).toList) = decide (xs = ys) := by
  rw [Bool.eq_iff_iff, beq_iff_eq, decide_eq_true_eq]
  constructor
  · intro h
    rw [ByteArray.toList_eq, ByteArray.toList_eq] at h
    have h2 : st xs = st ys := by
      cases hx' : st xs; cases hy' : st ys
      rw [hx', hy'] at h
      simp only [ByteArray.mk.injEq]
      exact Array.toList_inj.1 h
    rw [← bs_st hx, ← bs_st hy, h2]
  · intro h; rw [h]
end By
end Go.Proofs.YtfobogcccbddbaaGreatDoor

/- Maps of the call's own, from texts to any values: what a look-up, a store, a deletion and the length say, and which keys they have. No condition. -/
namespace Go.Proofs.YtfobogcccbddbaaGreatDoor
namespace By
open Go.RowKit WireN
set_option linter.unusedVariables false
set_option linter.unusedSimpArgs false

/-- How a value of such a map reads: as itself. -/
def RV (v : Value) : Option (DataW Value × List MemPlace) := some (.held v, [])
/-- Block b is a map of sz entries, made by at most n stores, that has these values. -/
structure MV (w : World) (b n sz : Nat) (M : List Nat → Option Value) : Prop where
  ex : ∃ D : DataW Value, w.ownsMap Tryz.prog 9 RV b n D ∧ Go.Maps.size D = sz ∧
    ∀ c : List Nat, Lt c → (∀ z, D.atKey (.string (st c).data.toList) (.held z) = .held ((M c).getD z)) ∧ Go.Maps.has D (.string (st c).data.toList) = (M c).isSome
theorem MV.made (w : World) : MV (w.alloc (.map #[] 0)) w.heap.size 0 0 (fun _ => none) :=
  ⟨.map [], World.ownsMap_made w _ _ _, rfl, fun c _ => ⟨fun z => rfl, rfl⟩⟩
theorem MV.lt {w : World} {b n sz : Nat} {M : List Nat → Option Value} (h : MV w b n sz M) : b < w.heap.size := by
  obtain ⟨D, h1, -⟩ := h; exact h1.lt
theorem MV.by {w w' : World} {b n sz : Nat} {M : List Nat → Option Value} {row : Option Nat} (h : MV w b n sz M) (hg : w.grownBy w' row) (hne : some b ≠ row) : MV w' b n sz M := by
  obtain ⟨D, h1, h2, h3⟩ := h
  exact ⟨D, h1.kept hg hne, h2, h3⟩
theorem MV.keep {w w' : World} {b n sz : Nat} {M : List Nat → Option Value} (h : MV w b n sz M) (hk : Kp w w') : MV w' b n sz M :=
  h.by (row := none) ⟨hk.os, hk.tape, hk.output, hk.size, fun i hi _ => hk.block i hi⟩ (by simp)
theorem MV.congr {w : World} {b n sz : Nat} {M M' : List Nat → Option Value} (h : MV w b n sz M) (e : ∀ c, Lt c → M c = M' c) : MV w b n sz M' := by
  obtain ⟨D, h1, h2, h3⟩ := h
  exact ⟨D, h1, h2, fun c hc => by rw [← e c hc]; exact h3 c hc⟩
theorem keyed_st : Go.Maps.Keyed Tryz.prog 9 := Go.Maps.string_keyed Tryz.underlying9
theorem key_st {c : List Nat} (hl : c.length ≤ maxLen) : keyOf Tryz.prog 9 (.string (st c)) = some (.string (st c).data.toList) :=
  WideMaps.keyOf_string_mk Tryz.underlying9 (by rw [st_size]; exact hl)
theorem st_dneM {c k : List Nat} (hc : Lt c) (hk : Lt k) (h : c ≠ k) : (Lit.string (st c).data.toList) ≠ Lit.string (st k).data.toList := by
  intro e
  injection e with e
  refine h ?_
  have h2 : (st c).data = (st k).data := Array.toList_inj.1 e
  have h3 : st c = st k := by
    cases hx : st c; cases hy : st k
    rw [hx, hy] at h2
    simp only at h2
    rw [h2]
  rw [← bs_st hc, ← bs_st hk, h3]
set_option maxRecDepth 100000 in
/-- 'v, ok := m[k]'. -/
theorem MV.get2 {w : World} {b n sz : Nat} {M : List Nat → Option Value} (h : MV w b n sz M) {t e : TypeId} (ht : Tryz.prog.underlying t = some (.map 9 e)) {z : Value} (hz : (zeroValue e).run Tryz.prog w = .ok z w) {c : List Nat} (hc : Lt c) (hl : c.length ≤ maxLen) :
    (Instr.lookup t (.map (some b)) (.string (st c)) true).run Tryz.prog w = .ok (.tuple #[(M c).getD z, .bool (M c).isSome]) w := by
  obtain ⟨D, h1, h2, h3⟩ := h
  obtain ⟨v, ps, hr, hv⟩ := h1.look_ok keyed_st ht hz (zd := .held z) (zp := []) rfl (key_st hl)
  obtain ⟨h4, h5⟩ := h3 c hc
  rw [h4 z] at hv
  simp only [RV, Option.some.injEq, Prod.mk.injEq, DataW.held.injEq] at hv
  rw [hr, h5, hv.1]
set_option maxRecDepth 100000 in
/-- 'm[k]'. -/
theorem MV.get1 {w : World} {b n sz : Nat} {M : List Nat → Option Value} (h : MV w b n sz M) {t e : TypeId} (ht : Tryz.prog.underlying t = some (.map 9 e)) {z : Value} (hz : (zeroValue e).run Tryz.prog w = .ok z w) {c : List Nat} (hc : Lt c) (hl : c.length ≤ maxLen) :
    (Instr.lookup t (.map (some b)) (.string (st c)) false).run Tryz.prog w = .ok ((M c).getD z) w := by
  obtain ⟨D, h1, h2, h3⟩ := h
  obtain ⟨v, ps, hr, hv⟩ := h1.lookup keyed_st ht hz (zd := .held z) (zp := []) rfl (key_st hl)
  obtain ⟨h4, h5⟩ := h3 c hc
  rw [h4 z] at hv
  simp only [RV, Option.some.injEq, Prod.mk.injEq, DataW.held.injEq] at hv
  rw [hr, hv.1]
/-- The values with one more. -/
def mset (M : List Nat → Option Value) (k : List Nat) (v : Value) : List Nat → Option Value := fun q => if q = k then some v else M q
def mdel (M : List Nat → Option Value) (k : List Nat) : List Nat → Option Value := fun q => if q = k then none else M q
set_option maxRecDepth 100000 in
theorem MV.put {w : World} {b n sz : Nat} {M : List Nat → Option Value} (h : MV w b n sz M) (hn : n ≤ 1000000) {t e : TypeId} (ht : Tryz.prog.underlying t = some (.map 9 e)) {k : List Nat} (hk : Lt k) (hl : k.length ≤ maxLen) (v : Value) :
    ∃ w', (Instr.mapUpdate t (.map (some b)) (.string (st k)) v).run Tryz.prog w = .ok () w' ∧ MV w' b (n + 1) (if (M k).isSome = true then sz else sz + 1) (mset M k v) ∧ w.grownBy w' (some b) := by
  obtain ⟨D, h1, h2, h3⟩ := h
  have hT := h1.tidy keyed_st
  obtain ⟨w', hr, ho, hg⟩ := h1.update keyed_st ht (by unfold maxLen; omega) (key_st hl) (val := v) (d := .held v) (ps := []) rfl
  refine ⟨w', hr, ⟨_, ho, ?_, fun c hc => ?_⟩, hg⟩
  · rw [Go.Maps.size_put hT, (h3 k hk).2, h2]
  · unfold mset
    by_cases hck : c = k
    · subst hck
      rw [if_pos rfl, Go.Maps.has_put_same hT.isMap (by trivial)]
      exact ⟨fun z => by rw [Go.Maps.atKey_put_same hT.isMap (by trivial)]; rfl, rfl⟩
    · rw [if_neg hck, Go.Maps.has_put_other (st_dneM hc hk hck)]
      exact ⟨fun z => by rw [Go.Maps.atKey_put_other (st_dneM hc hk hck), (h3 c hc).1], (h3 c hc).2⟩
set_option maxRecDepth 100000 in
theorem MV.del {w : World} {b n sz : Nat} {M : List Nat → Option Value} (h : MV w b n sz M) {t e : TypeId} (ht : Tryz.prog.underlying t = some (.map 9 e)) {k : List Nat} (hk : Lt k) (hl : k.length ≤ maxLen) (ty : TypeId) :
    ∃ w', (Builtin.delete_ #[t, 9] ty #[.map (some b), .string (st k)]).run Tryz.prog w = .ok (.tuple #[]) w' ∧ (∃ sz', MV w' b n sz' (mdel M k)) ∧ w.grownBy w' (some b) := by
  obtain ⟨D, h1, h2, h3⟩ := h
  obtain ⟨w', hr, ho, hg⟩ := h1.drop keyed_st ht (key_st hl) ty
  refine ⟨w', hr, ⟨_, _, ho, rfl, fun c hc => ?_⟩, hg.grown⟩
  unfold mdel
  by_cases hck : c = k
  · subst hck
    rw [if_pos rfl, Go.Maps.has_del_same]
    exact ⟨fun z => by rw [Go.Maps.atKey_del_same]; rfl, rfl⟩
  · rw [if_neg hck, Go.Maps.has_del_other (st_dneM hc hk hck)]
    exact ⟨fun z => by rw [Go.Maps.atKey_del_other (st_dneM hc hk hck), (h3 c hc).1], (h3 c hc).2⟩
theorem MV.len {w : World} {b n sz : Nat} {M : List Nat → Option Value} (h : MV w b n sz M) {t e : TypeId} (ht : Tryz.prog.underlying t = some (.map 9 e)) (ty : TypeId) :
    (Builtin.len_ #[t] ty #[.map (some b)]).run Tryz.prog w = .ok (.int .i64 (sz : Nat)) w := by
  obtain ⟨D, h1, h2, h3⟩ := h
  rw [h1.len ht ty, h2]
theorem MV.sz_le {w : World} {b n sz : Nat} {M : List Nat → Option Value} (h : MV w b n sz M) : sz ≤ n := by
  obtain ⟨D, h1, h2, h3⟩ := h
  rw [← h2]; exact h1.size_le
/-- A store to the map, as a step of a walk. -/
theorem wpList_mvput {w : World} {ops : Array Oper} {rest : List Oper} {o : Oper} {a : Act} {Q : Exit → Act → World → Prop} (hg : o.guard = none) (t : TypeId) (m x v : Operand) (hop : o.op = Op.mapUpdate t m x v) {e : TypeId} (ht : Tryz.prog.underlying t = some (.map 9 e))
    {b n sz : Nat} {M : List Nat → Option Value} (hm : a.eval m = .map (some b)) (h : MV w b n sz M) (hn : n ≤ 1000000) (k : List Nat) (hk : Lt k) (hl : k.length ≤ maxLen) (hx : a.eval x = .string (st k)) (u : Value) (hv : a.eval v = u)
    (hK : ∀ w', MV w' b (n + 1) (if (M k).isSome = true then sz else sz + 1) (mset M k u) → w.grownBy w' (some b) → wpList Tryz.prog ops Q rest (a.put o.dst undef) w') : wpList Tryz.prog ops Q (o :: rest) a w := by
  refine wpList_plain hg fun K' hK' => ?_
  obtain ⟨w', hrun, r1, r2⟩ := h.put hn ht hk hl u
  unfold Oper.wp
  simp [execOp, hop, hm, hx, hv, hrun, Result.andThen]
  exact hK' _ _ (hK w' r1 r2)
theorem wpList_mvdel {w : World} {ops : Array Oper} {rest : List Oper} {o : Oper} {a : Act} {Q : Exit → Act → World → Prop} (hg : o.guard = none) (t : TypeId) (m x : Operand) (hop : o.op = Op.call { callee := Callee.builtin Builtin.delete, args := #[m, x], argTypes := #[t, 9] }) {e : TypeId} (ht : Tryz.prog.underlying t = some (.map 9 e))
    {b n sz : Nat} {M : List Nat → Option Value} (hm : a.eval m = .map (some b)) (h : MV w b n sz M) (k : List Nat) (hk : Lt k) (hl : k.length ≤ maxLen) (hx : a.eval x = .string (st k))
    (hK : ∀ w', (∃ sz', MV w' b n sz' (mdel M k)) → w.grownBy w' (some b) → wpList Tryz.prog ops Q rest (a.put o.dst (.tuple #[])) w') : wpList Tryz.prog ops Q (o :: rest) a w := by
  refine wpList_plain hg fun K' hK' => ?_
  obtain ⟨w', hrun, r1, r2⟩ := h.del ht hk hl o.type
  unfold Oper.wp
  simp [execOp, hop, resolve, invoke, builtin, hm, hx, hrun, Result.andThen]
  exact hK' _ _ (hK w' r1 r2)
theorem wpList_mvlen {w : World} {ops : Array Oper} {rest : List Oper} {o : Oper} {a : Act} {Q : Exit → Act → World → Prop} (hg : o.guard = none) (t : TypeId) (m : Operand) (hop : o.op = Op.call { callee := Callee.builtin Builtin.len, args := #[m], argTypes := #[t] }) {e : TypeId} (ht : Tryz.prog.underlying t = some (.map 9 e))
    {b n sz : Nat} {M : List Nat → Option Value} (hm : a.eval m = .map (some b)) (h : MV w b n sz M)
    (hK : wpList Tryz.prog ops Q rest (a.put o.dst (.int .i64 (sz : Nat))) w) : wpList Tryz.prog ops Q (o :: rest) a w := by
  refine wpList_plain hg fun K' hK' => ?_
  unfold Oper.wp
  simp [execOp, hop, resolve, invoke, builtin, hm, h.len ht o.type, Result.andThen]
  exact hK' _ _ hK
/-- The keys of the map, in any order. -/
theorem MV.keys {w : World} {b n sz : Nat} {M : List Nat → Option Value} (h : MV w b n sz M) : ∃ D : DataW Value, w.ownsMap Tryz.prog 9 RV b n D ∧ Go.Maps.size D ≤ n ∧
    ∀ ss : List (List UInt8), ss.Perm (strKeys D) → ss.Nodup ∧ (∀ x ∈ ss, x.length ≤ maxLen) ∧ ∀ x, x ∈ ss ↔ (M (x.map UInt8.toNat)).isSome = true := by
  obtain ⟨D, h1, h2, h3⟩ := h
  refine ⟨D, h1, h1.size_le, fun ss hp => ?_⟩
  obtain ⟨es, rfl, hpw, -⟩ := h1.entries keyed_st
  obtain ⟨es', hD', hko⟩ := h1.keysOf
  obtain rfl : es = es' := by simpa using hD'
  have hks : ∀ p ∈ es, ∃ x : List UInt8, p.1 = .string x ∧ x.length ≤ maxLen := fun p hp' => by
    obtain ⟨v, hv⟩ := hko p hp'
    obtain ⟨x, _, hx, hl⟩ := Maps.keyOf_str Tryz.underlying9 hv
    exact ⟨x, hx, hl⟩
  have hnd : (strKeys (.map es : DataW Value)).Nodup := by
    show (es.map fun p => strOf p.1).Nodup
    refine List.pairwise_map.2 (hpw.imp_of_mem fun {p q} hp' hq' hne e => hne ?_)
    obtain ⟨a, ha, -⟩ := hks p hp'
    obtain ⟨b, hb, -⟩ := hks q hq'
    rw [ha, hb] at e ⊢
    exact congrArg _ e
  refine ⟨hp.nodup_iff.2 hnd, fun x hx => strKeys_le h1 Tryz.underlying9 x (hp.mem_iff.1 hx), fun x => ?_⟩
  have hlt : Lt (x.map UInt8.toNat) := bs_lt ⟨x.toArray⟩
  have hst : (st (x.map UInt8.toNat)).data.toList = x := by
    have := st_bs ⟨x.toArray⟩
    have e : bs ⟨x.toArray⟩ = x.map UInt8.toNat := by simp [bs]
    rw [e] at this
    rw [this]
  have hh := (h3 _ hlt).2
  rw [hst] at hh
  rw [hp.mem_iff, ← hh, Go.Maps.has_eq, List.any_eq_true]
  show x ∈ es.map (fun p => strOf p.1) ↔ _
  rw [List.mem_map]
  constructor
  · rintro ⟨p, hp', rfl⟩
    obtain ⟨a, ha, -⟩ := hks p hp'
    exact ⟨p, hp', by rw [ha]; simp [Lit.sameKey, strOf]⟩
  · rintro ⟨p, hp', hs⟩
    obtain ⟨a, ha, -⟩ := hks p hp'
    rw [ha] at hs
    have e : a = x := by simpa [Lit.sameKey] using hs
    exact ⟨p, hp', by rw [ha, e]; rfl⟩
end By
end Go.Proofs.YtfobogcccbddbaaGreatDoor

/- A row's form: it lies in RowF. No condition. -/
namespace Go.Proofs.YtfobogcccbddbaaGreatDoor
end Go.Proofs.YtfobogcccbddbaaGreatDoor
