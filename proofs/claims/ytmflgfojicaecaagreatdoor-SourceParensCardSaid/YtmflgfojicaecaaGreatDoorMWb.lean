/- The writer's node, first part: Itoa and Join, call, binary and choice, given what the writing of what is below does. Conditions: the text has at most a thousand million bytes; the package variables that the code reads lie in memory. -/
import Derived.Test.YtmflgfojicaecaaGreatDoorMWa
import Derived.Test.YtmflgfojicaecaaGreatDoorShelf
import Derived.Lib.ItoaMem
import Derived.Sort.Grow
namespace SrcN
theorem join_snoc (sep : List Nat) : ∀ (xs : List (List Nat)) (x : List Nat), join sep (xs ++ [x]) = if xs = [] then x else join sep xs ++ sep ++ x
  | [], x => rfl
  | [a], x => by simp [join]
  | a :: b :: r, x => by
    have := join_snoc sep (b :: r) x
    simp only [List.cons_append, join] at this ⊢
    rw [this]
    simp
theorem joinTail_eq (sep : List Nat) : ∀ (x : List Nat) (r : List (List Nat)), join sep (x :: r) = x ++ (r.map (sep ++ ·)).flatten
  | x, [] => by simp [join]
  | x, y :: r => by
    rw [join, joinTail_eq sep y r]
    simp
theorem join_take_len (sep : List Nat) (xs : List (List Nat)) (i : Nat) : (join sep (xs.take i)).length ≤ (join sep xs).length := by
  cases xs with
  | nil => simp
  | cons x r =>
    cases i with
    | zero => simp [join]
    | succ i =>
      rw [List.take_succ_cons, joinTail_eq, joinTail_eq, List.length_append, List.length_append]
      have : (r.map (sep ++ ·)).flatten = ((r.take i).map (sep ++ ·)).flatten ++ ((r.drop i).map (sep ++ ·)).flatten := by
        rw [← List.flatten_append, ← List.map_append, List.take_append_drop]
      rw [this, List.length_append]; omega
end SrcN
namespace Go.Proofs.YtmflgfojicaecaaGreatDoor
namespace By
open Go.RowKit WireN LexN SrcN
set_option linter.unusedVariables false
set_option linter.unusedSimpArgs false

/-- The powers of ten lie where the library's text lays them. -/
abbrev Tab10 (w : World) : Prop := Lib.TabIs Tryz.prog w "internal/strconv.uint64pow10" .u64 Lib.pow10Tab
theorem tab_keep {w w' : World} (h : Tab10 w) (hk : Kp w w') : Tab10 w' := by
  unfold Tab10 Lib.TabIs World.var? at *
  cases hg : Tryz.prog.globalNamed "internal/strconv.uint64pow10" with
  | none => simp [hg] at h
  | some g =>
    simp only [hg, Option.bind_some] at h ⊢
    have hlt : g < w.heap.size := by
      rcases Nat.lt_or_ge g w.heap.size with h' | h'
      · exact h'
      · rw [Array.getElem?_eq_none h'] at h; simp at h
    rw [hk.block g hlt]
    exact h
theorem Itoa_any {n : Int} (h0 : -9007199254740992 ≤ n) (h1 : n ≤ 9007199254740992) {w : World} (ht : Tab10 w) :
    Calls Tryz.prog 147 #[.int .i64 n] w fun e w' => e = .returned (.string (st (itoaN n))) ∧ Kp w w' := by
  refine (Tryz.strconv_Itoa n (by omega) (by omega) w ht).mono ?_
  rintro e w' ⟨rfl, k, os, rfl⟩
  refine ⟨?_, ⟨rfl, rfl, rfl, by first | (simp [Go.Sort.grow]; done) | (simp [Go.Sort.grow]; omega), fun i hi => ?_⟩⟩
  · unfold itoaN st
    rw [List.map_map]
    have : ((fun n => UInt8.ofNat n) ∘ UInt8.toNat) = (id : UInt8 → UInt8) := by funext u; simp
    rw [this, List.map_id]
  · show ((w.drewN k).heap ++ os)[i]? = _
    rw [Array.getElem?_append_left (by show i < w.heap.size; omega)]
    rfl
theorem itoaN_lt (n : Int) : Lt (itoaN n) := lt_of_mem fun x hx => by
  obtain ⟨u, _, rfl⟩ := List.mem_map.1 hx
  exact u.toNat_lt
theorem join_u8 (sep : List Nat) : ∀ (xs : List (List Nat)), Lib.join (xs.map fun x => x.map fun n => UInt8.ofNat n) (sep.map fun n => UInt8.ofNat n) = (SrcN.join sep xs).map fun n => UInt8.ofNat n
  | [] => rfl
  | x :: r => by
    rw [List.map_cons, Lib.join_cons, joinTail_eq, List.map_append]
    congr 1
    unfold Lib.joinTail
    rw [List.map_flatten, List.map_map, List.map_map]
    congr 1
    apply List.map_congr_left
    intro y _
    simp
theorem Join_any {w : World} {pa : Option Addr} {pc : Nat} {ns : List (List Nat)} (h : Sts w (.slice pa ns.length pc) ns) (hc : ns.length ≤ pc) (hl : (SrcN.join [44, 32] ns).length ≤ 1000000000) :
    Calls Tryz.prog 109 #[.slice pa ns.length pc, .string (st [44, 32])] w fun e w' => e = .returned (.string (st (SrcN.join [44, 32] ns))) ∧ Kp w w' := by
  obtain ⟨⟨ao, c, e1, h2, h3⟩, -⟩ := h
  simp only [Value.slice.injEq] at e1
  obtain ⟨rfl, -, rfl⟩ := e1
  rcases h3 with h3 | ⟨g, o, rfl, hg, hcell⟩
  · subst h3
    refine (Tryz.strings_Join_none pa pc (st [44, 32]) w).mono ?_
    rintro e w' ⟨rfl, rfl⟩
    exact ⟨rfl, Kp.refl _⟩
  · have hj : Lib.join ((ns.map st).map (·.data.toList)) (st [44, 32]).data.toList = (SrcN.join [44, 32] ns).map fun n => UInt8.ofNat n := by
      rw [← join_u8, List.map_map]
      congr 1
    have := Tryz.strings_Join g o pc (ns.map st) (st [44, 32]) w (fun j x hx => by
      rw [List.getElem?_map] at hx
      obtain ⟨n, hn, rfl⟩ := Option.map_eq_some_iff.1 hx
      exact hcell j n hn) hg (by rw [List.length_map]; omega) (by rw [List.length_map]; exact hc) (by rw [hj, List.length_map]; omega)
    rw [hj, List.length_map] at this
    exact this.mono fun e w' hh => ⟨hh.1, hh.2⟩
/-- The cells of a boxed node. -/
def ecell (k num op : Int) (S : ByteArray) (av : Value) : Array Value := #[.int .i64 k, .int .i64 num, .int .i64 op, .string S, av]
/-- What the writing of the parts below does. -/
def Kids (w0 : World) (b : Nat) (psn : List (List Nat)) (ks : List T) (rs : List Int) (d0 d1 d2 d3 : Value) : Prop :=
  ∀ (i : Nat) (t : T) (r : Int), ks[i]? = some t → rs[i]? = some r → ∀ (w : World) (l : List Nat) (lv : Nat), Wt w0 w b l d0 d1 d2 d3 → lv ≤ 4 → l.length + (wrT psn t lv).length ≤ 1000000000 →
    Calls Tryz.prog 78 #[.pointer (some ⟨b, 0, none⟩), .int .i64 r, .int .i64 (lv : Nat)] w (Wrote w0 b (l ++ wrT psn t lv) d0 d1 d2 d3 w)
/-- One string in a slice of its own, for put. -/
theorem put_one {w0 w w1 : World} {b g : Nat} {d0 d1 d2 d3 : Value} {l x : List Nat} (h : Wt w0 w b l d0 d1 d2 d3) (hg : g = w.heap.size) (hw : w1 = w.alloc (Obj.cells #[.string (st x)] 9)) (hx : Lt x) (hlen : l.length + x.length ≤ 1000000000) :
    Calls Tryz.prog 69 #[.pointer (some ⟨b, 0, none⟩), .slice (some ⟨g, 0, none⟩) 1 1] w1 (Wrote w0 b (l ++ x) d0 d1 d2 d3 w) := by
  subst hw
  subst hg
  have hk := kp_alloc w (Obj.cells #[.string (st x)] 9)
  have := put_any (parts := [x]) (h.keep hk) (Blk.new w 9 #[.string (st x)]) (by have := h.lt; omega) (by simpa using hx) (by simp) (by simpa using hlen)
  simp only [List.flatten_cons, List.flatten_nil, List.append_nil] at this
  exact this.mono fun e w' hh => ⟨hh.1, hh.2.1, (Ok8.of_kp hk).trans hh.2.2⟩
/-- Some strings in a slice of their own, for put. -/
theorem put_some {w0 w w1 : World} {b g : Nat} {d0 d1 d2 d3 : Value} {l : List Nat} (parts : List (List Nat)) {n : Nat} (h : Wt w0 w b l d0 d1 d2 d3) (hg : g = w.heap.size) (hw : w1 = w.alloc (Obj.cells (parts.map fun x => Value.string (st x)).toArray 9)) (hx : ∀ x ∈ parts, Lt x) (hn : parts.length = n) (hn5 : n ≤ 5) (hlen : l.length + parts.flatten.length ≤ 1000000000) :
    Calls Tryz.prog 69 #[.pointer (some ⟨b, 0, none⟩), .slice (some ⟨g, 0, none⟩) n n] w1 (Wrote w0 b (l ++ parts.flatten) d0 d1 d2 d3 w) := by
  subst hw
  subst hn
  subst hg
  have hk := kp_alloc w (Obj.cells (parts.map fun x => Value.string (st x)).toArray 9)
  have := put_any (parts := parts) (h.keep hk) (Blk.new w 9 _) (by have := h.lt; omega) hx hn5 hlen
  exact this.mono fun e w' hh => ⟨hh.1, hh.2.1, (Ok8.of_kp hk).trans hh.2.2⟩
theorem Wrote.of {w0 w w1 : World} {b : Nat} {l : List Nat} {d0 d1 d2 d3 : Value} {e : Ending} {w' : World} (h : Wrote w0 b l d0 d1 d2 d3 w1 e w') (ho : Ok8 b w w1) : Wrote w0 b l d0 d1 d2 d3 w e w' := ⟨h.1, h.2.1, ho.trans h.2.2⟩
theorem const_lt {x : List Nat} (h : ∀ n ∈ x, n < 256) : Lt x := lt_of_mem h
set_option maxRecDepth 100000 in
set_option maxHeartbeats 4000000 in
theorem choice_any {w0 w : World} {b : Nat} {d0 d1 d2 d3 : Value} {l nm : List Nat} {psn : List (List Nat)} {x y z : T} {rx ry rz : Int} {k num op : Int} {aa : Option Addr} {ac : Nat} (hA : Is w0 (.slice aa 3 ac) [rx, ry, rz]) (hK : Kids w0 b psn [x, y, z] [rx, ry, rz] d0 d1 d2 d3) (h : Wt w0 w b l d0 d1 d2 d3)
    (hlen : l.length + (([105, 102, 32] ++ wrT psn x 0 ++ [32, 116, 104, 101, 110, 32] ++ wrT psn y 0 ++ [32, 101, 108, 115, 101, 32] ++ wrT psn z 0 : List Nat)).length ≤ 1000000000) :
    Calls Tryz.prog 150 #[.pointer (some ⟨b, 0, none⟩), .agg (ecell k num op (st nm) (.slice aa 3 ac))] w (Wrote w0 b (l ++ ([105, 102, 32] ++ wrT psn x 0 ++ [32, 116, 104, 101, 110, 32] ++ wrT psn y 0 ++ [32, 101, 108, 115, 101, 32] ++ wrT psn z 0)) d0 d1 d2 d3 w) := by
  obtain ⟨S, hS⟩ : ∃ S, S = st nm := ⟨_, rfl⟩
  rw [← hS]
  clear hS
  obtain ⟨tx, htx⟩ : ∃ t, t = wrT psn x 0 := ⟨_, rfl⟩
  obtain ⟨ty, hty⟩ : ∃ t, t = wrT psn y 0 := ⟨_, rfl⟩
  obtain ⟨tz, htz⟩ : ∃ t, t = wrT psn z 0 := ⟨_, rfl⟩
  have KX := hK 0 x rx rfl rfl; have KY := hK 1 y ry rfl rfl; have KZ := hK 2 z rz rfl rfl
  rw [← htx, ← hty, ← htz] at hlen ⊢
  simp only [List.length_append, List.length_cons, List.length_nil] at hlen
  have FX : Hid (∀ (w : World) (l : List Nat), Wt w0 w b l d0 d1 d2 d3 → l.length + tx.length ≤ 1000000000 → Calls Tryz.prog 78 #[.pointer (some ⟨b, 0, none⟩), .int .i64 rx, .int .i64 0] w (Wrote w0 b (l ++ tx) d0 d1 d2 d3 w)) := Lib.hid (fun w l h1 h2 => by rw [htx] at h2 ⊢; exact KX w l 0 h1 (by omega) h2)
  have FY : Hid (∀ (w : World) (l : List Nat), Wt w0 w b l d0 d1 d2 d3 → l.length + ty.length ≤ 1000000000 → Calls Tryz.prog 78 #[.pointer (some ⟨b, 0, none⟩), .int .i64 ry, .int .i64 0] w (Wrote w0 b (l ++ ty) d0 d1 d2 d3 w)) := Lib.hid (fun w l h1 h2 => by rw [hty] at h2 ⊢; exact KY w l 0 h1 (by omega) h2)
  have FZ : Hid (∀ (w : World) (l : List Nat), Wt w0 w b l d0 d1 d2 d3 → l.length + tz.length ≤ 1000000000 → Calls Tryz.prog 78 #[.pointer (some ⟨b, 0, none⟩), .int .i64 rz, .int .i64 0] w (Wrote w0 b (l ++ tz) d0 d1 d2 d3 w)) := Lib.hid (fun w l h1 h2 => by rw [htz] at h2 ⊢; exact KZ w l 0 h1 (by omega) h2)
  have HLEN : Hid (l.length + tx.length + ty.length + tz.length + 15 ≤ 1000000000) := Lib.hid (by omega)
  obtain ⟨Q, hQ⟩ : ∃ Q, Q = Wrote w0 b (l ++ ([105, 102, 32] ++ tx ++ [32, 116, 104, 101, 110, 32] ++ ty ++ [32, 101, 108, 115, 101, 32] ++ tz)) d0 d1 d2 d3 w := ⟨_, rfl⟩
  rw [← hQ]
  have HQ := Lib.hid hQ
  obtain ⟨W0, hW0⟩ : ∃ W0, W0 = w.alloc (Obj.cells (ecell k num op S (.slice aa 3 ac)) 57) := ⟨_, rfl⟩
  have k0 : Kp w W0 := by rw [hW0]; exact kp_alloc w _
  have bb : Blk W0 w.heap.size 57 (ecell k num op S (.slice aa 3 ac)) := by rw [hW0]; exact Blk.new _ _ _
  have HNB : Hid (w.heap.size ≠ b) := Lib.hid (by have := h.lt; omega)
  have H0 : Hid (Wt w0 W0 b l d0 d1 d2 d3) := Lib.hid (h.keep k0)
  have HW0 := Lib.hid hW0; have BB := Lib.hid bb
  have O0 : Hid (Ok8 b w W0) := Lib.hid (Ok8.of_kp k0)
  obtain ⟨ga, oa, rfl, hac⟩ := hA.cell (j := 0) (by simp)
  have HAC := Lib.hid hac
  have HZ0 : Hid (w.heap.size + 1 = W0.heap.size) := Lib.hid (by rw [hW0]; simp)
  clear htx hty htz KX KY KZ hK hA hlen h hQ hW0 k0 bb hac
  unfold ecell at *
  go_enter Tryz.func150, Tryz.ntmps150
  go_wp2_with fail
  rw [← HW0.out]
  refine (put_one (x := [105, 102, 32]) H0.out HZ0.out rfl (const_lt (by decide)) (by have := HLEN.out; simp only [List.length_cons, List.length_nil]; omega)).mono ?_
  rintro e W2 ⟨rfl, h2, o2⟩
  have H2 := Lib.hid h2; have O2 := Lib.hid (O0.out.trans o2)
  have e4 := (BB.out.ok8 o2 HNB.out (by decide)).cell 4 rfl
  have B2 := Lib.hid (BB.out.ok8 o2 HNB.out (by decide))
  have a0 : W2.cell? ⟨ga, oa, none⟩ = some (.int .i64 rx) := by have := cell_kept (HAC.out 0 rx rfl) h2.kp; simpa using this
  clear h2 o2
  go_wp2_with fail
  refine (FX.out W2 _ H2.out (by have := HLEN.out; simp only [List.length_append, List.length_cons, List.length_nil]; omega)).mono ?_
  rintro e W3 ⟨rfl, h3, o3⟩
  have H3 := Lib.hid h3; have O3 := Lib.hid (O2.out.trans o3)
  have B3 := Lib.hid (B2.out.ok8 o3 HNB.out (by decide))
  clear h3 o3 e4 a0
  go_wp2_with fail
  refine (put_one (x := [32, 116, 104, 101, 110, 32]) H3.out rfl rfl (const_lt (by decide)) (by have := HLEN.out; simp only [List.length_append, List.length_cons, List.length_nil]; omega)).mono ?_
  rintro e W4 ⟨rfl, h4, o4⟩
  have H4 := Lib.hid h4; have O4 := Lib.hid (O3.out.trans o4)
  have B4 := Lib.hid (B3.out.ok8 o4 HNB.out (by decide))
  have e4 := B4.out.cell 4 rfl
  have a1 : W4.cell? ⟨ga, oa + 1, none⟩ = some (.int .i64 ry) := cell_kept (HAC.out 1 ry rfl) h4.kp
  clear h4 o4
  go_wp2_with fail
  refine (FY.out W4 _ H4.out (by have := HLEN.out; simp only [List.length_append, List.length_cons, List.length_nil]; omega)).mono ?_
  rintro e W5 ⟨rfl, h5, o5⟩
  have H5 := Lib.hid h5; have O5 := Lib.hid (O4.out.trans o5)
  have B5 := Lib.hid (B4.out.ok8 o5 HNB.out (by decide))
  clear h5 o5 e4 a1
  go_wp2_with fail
  refine (put_one (x := [32, 101, 108, 115, 101, 32]) H5.out rfl rfl (const_lt (by decide)) (by have := HLEN.out; simp only [List.length_append, List.length_cons, List.length_nil]; omega)).mono ?_
  rintro e W6 ⟨rfl, h6, o6⟩
  have H6 := Lib.hid h6; have O6 := Lib.hid (O5.out.trans o6)
  have B6 := Lib.hid (B5.out.ok8 o6 HNB.out (by decide))
  have e4 := B6.out.cell 4 rfl
  have a2 : W6.cell? ⟨ga, oa + 2, none⟩ = some (.int .i64 rz) := cell_kept (HAC.out 2 rz rfl) h6.kp
  clear h6 o6
  go_wp2_with fail
  refine (FZ.out W6 _ H6.out (by have := HLEN.out; simp only [List.length_append, List.length_cons, List.length_nil]; omega)).mono ?_
  rintro e W7 ⟨rfl, h7, o7⟩
  have FIN : Hid (Q (.returned (.tuple #[])) W7) := Lib.hid (by
    rw [HQ.out]
    refine ⟨rfl, ?_, O6.out.trans o7⟩
    simpa only [List.append_assoc] using h7)
  clear h7 o7 e4 a2
  go_wp2_with fail
  go_end0
  exact FIN.out
end By
end Go.Proofs.YtmflgfojicaecaaGreatDoor

/- The writer's node, second part: call, binary and each kind of node, given what the writing of what is below does. Conditions: the text has at most a thousand million bytes; the package variables that the code reads lie in memory. -/
namespace Go.Proofs.YtmflgfojicaecaaGreatDoor
namespace By
open Go.RowKit WireN LexN SrcN
set_option linter.unusedVariables false
set_option linter.unusedSimpArgs false

set_option maxRecDepth 100000 in
set_option maxHeartbeats 800000 in
theorem binary_one {w0 w : World} {b : Nat} {d0 d1 d2 d3 : Value} {l nm : List Nat} {psn : List (List Nat)} {num op : Int} {aa : Option Addr} {ac : Nat} {x y : T} {rx ry : Int} (hG : Glob w0) (ho : 1 ≤ op ∧ op ≤ 7) (h1 : opLv op = 1) (hA : Is w0 (.slice aa 2 ac) [rx, ry]) (hK : Kids w0 b psn [x, y] [rx, ry] d0 d1 d2 d3) (h : Wt w0 w b l d0 d1 d2 d3) (hlen : l.length + (wrT psn x 2 ++ ([32] ++ opSg op ++ [32]) ++ wrT psn y 2).length ≤ 1000000000) :
    Calls Tryz.prog 149 #[.pointer (some ⟨b, 0, none⟩), .agg (ecell 4 num op (st nm) (.slice aa 2 ac))] w (Wrote w0 b (l ++ (wrT psn x 2 ++ ([32] ++ opSg op ++ [32]) ++ wrT psn y 2)) d0 d1 d2 d3 w) := by
  have hl3 : opLv op ≤ 3 ∧ 1 ≤ opLv op := by
    obtain ⟨o1, o2⟩ := ho
    obtain rfl | rfl | rfl | rfl | rfl | rfl | rfl : op = 1 ∨ op = 2 ∨ op = 3 ∨ op = 4 ∨ op = 5 ∨ op = 6 ∨ op = 7 := by omega
    all_goals decide
  obtain ⟨i, hi, hi7, hi1, q0', q1'⟩ := op_cells ho.1 ho.2
  have q0 := hG.op _ _ q0'
  have q1 := hG.op _ _ q1'
  obtain ⟨sg, hsg⟩ : ∃ s, s = opSg op := ⟨_, rfl⟩
  obtain ⟨L, hL⟩ : ∃ s, s = opLv op := ⟨_, rfl⟩
  have hsgl : Lt sg := by
    rw [hsg]
    unfold opSg
    repeat' split
    all_goals exact const_lt (by decide)
  have HSGL := Lib.hid hsgl
  rw [← hsg] at q0 hlen ⊢
  rw [← hL] at q1 h1 hl3
  obtain ⟨tx, htx⟩ : ∃ t, t = wrT psn x 2 := ⟨_, rfl⟩
  obtain ⟨ty, hty⟩ : ∃ t, t = wrT psn y 2 := ⟨_, rfl⟩
  have KX := hK 0 x rx rfl rfl; have KY := hK 1 y ry rfl rfl
  rw [← htx, ← hty] at hlen ⊢
  have HLEN := Lib.hid hlen
  have FX : Hid (∀ (w : World) (l : List Nat), Wt w0 w b l d0 d1 d2 d3 → l.length + tx.length ≤ 1000000000 → Calls Tryz.prog 78 #[.pointer (some ⟨b, 0, none⟩), .int .i64 rx, .int .i64 (2)] w (Wrote w0 b (l ++ tx) d0 d1 d2 d3 w)) := Lib.hid (fun w l h1 h2 => by rw [htx] at h2 ⊢; exact KX w l 2 h1 (by omega) h2)
  have FY : Hid (∀ (w : World) (l : List Nat), Wt w0 w b l d0 d1 d2 d3 → l.length + ty.length ≤ 1000000000 → Calls Tryz.prog 78 #[.pointer (some ⟨b, 0, none⟩), .int .i64 ry, .int .i64 (2)] w (Wrote w0 b (l ++ ty) d0 d1 d2 d3 w)) := Lib.hid (fun w l h1 h2 => by rw [hty] at h2 ⊢; exact KY w l 2 h1 (by omega) h2)
  obtain ⟨ga, oa, rfl, hac⟩ := hA.cell (j := 0) (by simp)
  have HAC := Lib.hid hac
  subst hi
  have Q0 := Lib.hid q0; have Q1 := Lib.hid q1
  have HKP := Lib.hid h.kp
  subst h1
  obtain ⟨Q, hQ⟩ : ∃ Q, Q = Wrote w0 b (l ++ (tx ++ ([32] ++ sg ++ [32]) ++ ty)) d0 d1 d2 d3 w := ⟨_, rfl⟩
  rw [← hQ]
  have HQ := Lib.hid hQ
  obtain ⟨W0, hW0⟩ : ∃ W0, W0 = w.alloc (Obj.cells (ecell 4 num (i : Int) (st nm) (.slice (some ⟨ga, oa, none⟩) 2 ac)) 57) := ⟨_, rfl⟩
  have k0 : Kp w W0 := by rw [hW0]; exact kp_alloc w _
  have bb : Blk W0 w.heap.size 57 (ecell 4 num (i : Int) (st nm) (.slice (some ⟨ga, oa, none⟩) 2 ac)) := by rw [hW0]; exact Blk.new _ _ _
  have HNB : Hid (w.heap.size ≠ b) := Lib.hid (by have := h.lt; omega)
  have H0 : Hid (Wt w0 W0 b l d0 d1 d2 d3) := Lib.hid (h.keep k0)
  have HW0 := Lib.hid hW0; have BB := Lib.hid bb
  have O0 : Hid (Ok8 b w W0) := Lib.hid (Ok8.of_kp k0)
  have HZ0 : Hid (w.heap.size + 1 = W0.heap.size) := Lib.hid (by rw [hW0]; simp)
  have c0 := bb.cell 0 rfl; have c1 := bb.cell 1 rfl; have c2 := bb.cell 2 rfl; have c3 := bb.cell 3 rfl; have c4 := bb.cell 4 rfl
  rw [hW0] at c0 c1 c2 c3 c4
  clear h hQ hW0 k0 bb ho hL hl3 hsg hsgl htx hty KX KY hK hA hac q0' q1' hG hlen
  have f1 : (w.alloc (Obj.cells (ecell 4 num (i : Int) (st nm) (.slice (some ⟨ga, oa, none⟩) 2 ac)) 57)).cell? ⟨0, i * 2 + 1, none⟩ = some (.int .i64 (1 : Nat)) := by rw [← HW0.out]; exact cell_kept Q1.out H0.out.kp
  have a0 : (w.alloc (Obj.cells #[.int .i64 4, .int .i64 num, .int .i64 (i : Int), .string (st nm), .slice (some ⟨ga, oa, none⟩) 2 ac] 57)).cell? ⟨ga, oa, none⟩ = some (.int .i64 rx) := by have := cell_kept (HAC.out 0 rx rfl) H0.out.kp; rw [HW0.out] at this; simpa [ecell] using this
  unfold ecell at *
  go_enter Tryz.func149, Tryz.ntmps149
  go_wp2_with fail
  rw [← HW0.out] at f1 ⊢
  refine (FX.out W0 _ H0.out (by have := HLEN.out; simp only [List.length_append, List.length_cons, List.length_nil] at this ⊢; omega)).mono ?_
  rintro e W2 ⟨rfl, h2, o2⟩
  have H2 := Lib.hid h2; have O2 := Lib.hid (O0.out.trans o2)
  have B2 := Lib.hid (BB.out.ok8 o2 HNB.out (by decide))
  have e2 := B2.out.cell 2 rfl
  have g0 : W2.cell? ⟨0, i * 2, none⟩ = some (.string (st sg)) := cell_kept Q0.out h2.kp
  clear h2 o2 c0 c1 c2 c3 c4 f1 a0
  go_wp2_with fail
  refine (put_some [[32], sg, [32]] H2.out rfl rfl (by intro x hx; simp at hx; rcases hx with rfl | rfl | rfl; exact const_lt (by decide); exact HSGL.out; exact const_lt (by decide)) rfl (by simp) (by have := HLEN.out; simp only [List.length_append, List.length_cons, List.length_nil, List.flatten_cons, List.flatten_nil] at this ⊢; omega)).mono ?_
  rintro e W3 ⟨rfl, h3, o3⟩
  have H3 := Lib.hid h3; have O3 := Lib.hid (O2.out.trans o3)
  have B3 := Lib.hid (B2.out.ok8 o3 HNB.out (by decide))
  have e4 := B3.out.cell 4 rfl
  have a1 : W3.cell? ⟨ga, oa + 1, none⟩ = some (.int .i64 ry) := cell_kept (HAC.out 1 ry rfl) h3.kp
  clear h3 o3 e2 g0
  go_wp2_with fail
  refine (FY.out W3 _ H3.out (by have := HLEN.out; simp only [List.length_append, List.length_cons, List.length_nil, List.flatten_cons, List.flatten_nil] at this ⊢; omega)).mono ?_
  rintro e W4 ⟨rfl, h4, o4⟩
  have FIN : Hid (Q (.returned (.tuple #[])) W4) := Lib.hid (by
    rw [HQ.out]
    refine ⟨rfl, ?_, O3.out.trans o4⟩
    simpa only [List.append_assoc, List.flatten_cons, List.flatten_nil, List.append_nil, List.cons_append, List.nil_append] using h4)
  clear h4 o4 e4 a1
  go_wp2_with fail
  go_end0
  exact FIN.out
set_option maxRecDepth 100000 in
set_option maxHeartbeats 800000 in
theorem binary_more {w0 w : World} {b : Nat} {d0 d1 d2 d3 : Value} {l nm : List Nat} {psn : List (List Nat)} {num op : Int} {aa : Option Addr} {ac : Nat} {x y : T} {rx ry : Int} (hG : Glob w0) (ho : 1 ≤ op ∧ op ≤ 7) (h1 : opLv op ≠ 1) (hA : Is w0 (.slice aa 2 ac) [rx, ry]) (hK : Kids w0 b psn [x, y] [rx, ry] d0 d1 d2 d3) (h : Wt w0 w b l d0 d1 d2 d3) (hlen : l.length + (wrT psn x (opLv op) ++ ([32] ++ opSg op ++ [32]) ++ wrT psn y (opLv op + 1)).length ≤ 1000000000) :
    Calls Tryz.prog 149 #[.pointer (some ⟨b, 0, none⟩), .agg (ecell 4 num op (st nm) (.slice aa 2 ac))] w (Wrote w0 b (l ++ (wrT psn x (opLv op) ++ ([32] ++ opSg op ++ [32]) ++ wrT psn y (opLv op + 1))) d0 d1 d2 d3 w) := by
  have hl3 : opLv op ≤ 3 ∧ 1 ≤ opLv op := by
    obtain ⟨o1, o2⟩ := ho
    obtain rfl | rfl | rfl | rfl | rfl | rfl | rfl : op = 1 ∨ op = 2 ∨ op = 3 ∨ op = 4 ∨ op = 5 ∨ op = 6 ∨ op = 7 := by omega
    all_goals decide
  obtain ⟨i, hi, hi7, hi1, q0', q1'⟩ := op_cells ho.1 ho.2
  have q0 := hG.op _ _ q0'
  have q1 := hG.op _ _ q1'
  obtain ⟨sg, hsg⟩ : ∃ s, s = opSg op := ⟨_, rfl⟩
  obtain ⟨L, hL⟩ : ∃ s, s = opLv op := ⟨_, rfl⟩
  have hsgl : Lt sg := by
    rw [hsg]
    unfold opSg
    repeat' split
    all_goals exact const_lt (by decide)
  have HSGL := Lib.hid hsgl
  rw [← hsg] at q0 hlen ⊢
  rw [← hL] at q1 h1 hl3 hlen ⊢
  obtain ⟨tx, htx⟩ : ∃ t, t = wrT psn x L := ⟨_, rfl⟩
  obtain ⟨ty, hty⟩ : ∃ t, t = wrT psn y (L + 1) := ⟨_, rfl⟩
  have KX := hK 0 x rx rfl rfl; have KY := hK 1 y ry rfl rfl
  rw [← htx, ← hty] at hlen ⊢
  have HLEN := Lib.hid hlen
  have FX : Hid (∀ (w : World) (l : List Nat), Wt w0 w b l d0 d1 d2 d3 → l.length + tx.length ≤ 1000000000 → Calls Tryz.prog 78 #[.pointer (some ⟨b, 0, none⟩), .int .i64 rx, .int .i64 ((L : Nat))] w (Wrote w0 b (l ++ tx) d0 d1 d2 d3 w)) := Lib.hid (fun w l h1 h2 => by rw [htx] at h2 ⊢; exact KX w l L h1 (by omega) h2)
  have FY : Hid (∀ (w : World) (l : List Nat), Wt w0 w b l d0 d1 d2 d3 → l.length + ty.length ≤ 1000000000 → Calls Tryz.prog 78 #[.pointer (some ⟨b, 0, none⟩), .int .i64 ry, .int .i64 ((L : Int) + 1)] w (Wrote w0 b (l ++ ty) d0 d1 d2 d3 w)) := Lib.hid (fun w l h1 h2 => by
    have e : ((L + 1 : Nat) : Int) = (L : Int) + 1 := by omega
    rw [hty] at h2 ⊢
    rw [← e]
    exact KY w l (L + 1) h1 (by omega) h2)
  obtain ⟨ga, oa, rfl, hac⟩ := hA.cell (j := 0) (by simp)
  have HAC := Lib.hid hac
  subst hi
  have Q0 := Lib.hid q0; have Q1 := Lib.hid q1
  have HKP := Lib.hid h.kp
  have n1 : ((L : Int) == 1) = false := by
    have : (L : Int) ≠ 1 := by omega
    simpa using this
  have hLa : L ≤ 3 := hl3.1
  obtain ⟨Q, hQ⟩ : ∃ Q, Q = Wrote w0 b (l ++ (tx ++ ([32] ++ sg ++ [32]) ++ ty)) d0 d1 d2 d3 w := ⟨_, rfl⟩
  rw [← hQ]
  have HQ := Lib.hid hQ
  obtain ⟨W0, hW0⟩ : ∃ W0, W0 = w.alloc (Obj.cells (ecell 4 num (i : Int) (st nm) (.slice (some ⟨ga, oa, none⟩) 2 ac)) 57) := ⟨_, rfl⟩
  have k0 : Kp w W0 := by rw [hW0]; exact kp_alloc w _
  have bb : Blk W0 w.heap.size 57 (ecell 4 num (i : Int) (st nm) (.slice (some ⟨ga, oa, none⟩) 2 ac)) := by rw [hW0]; exact Blk.new _ _ _
  have HNB : Hid (w.heap.size ≠ b) := Lib.hid (by have := h.lt; omega)
  have H0 : Hid (Wt w0 W0 b l d0 d1 d2 d3) := Lib.hid (h.keep k0)
  have HW0 := Lib.hid hW0; have BB := Lib.hid bb
  have O0 : Hid (Ok8 b w W0) := Lib.hid (Ok8.of_kp k0)
  have HZ0 : Hid (w.heap.size + 1 = W0.heap.size) := Lib.hid (by rw [hW0]; simp)
  have c0 := bb.cell 0 rfl; have c1 := bb.cell 1 rfl; have c2 := bb.cell 2 rfl; have c3 := bb.cell 3 rfl; have c4 := bb.cell 4 rfl
  rw [hW0] at c0 c1 c2 c3 c4
  clear h hQ hW0 k0 bb ho hL hl3 hsg hsgl htx hty KX KY hK hA hac q0' q1' hG hlen h1
  have f1 : (w.alloc (Obj.cells (ecell 4 num (i : Int) (st nm) (.slice (some ⟨ga, oa, none⟩) 2 ac)) 57)).cell? ⟨0, i * 2 + 1, none⟩ = some (.int .i64 (L : Nat)) := by rw [← HW0.out]; exact cell_kept Q1.out H0.out.kp
  have a0 : (w.alloc (Obj.cells #[.int .i64 4, .int .i64 num, .int .i64 (i : Int), .string (st nm), .slice (some ⟨ga, oa, none⟩) 2 ac] 57)).cell? ⟨ga, oa, none⟩ = some (.int .i64 rx) := by have := cell_kept (HAC.out 0 rx rfl) H0.out.kp; rw [HW0.out] at this; simpa [ecell] using this
  unfold ecell at *
  go_enter Tryz.func149, Tryz.ntmps149
  go_wp2_with fail
  rw [← HW0.out] at f1 ⊢
  refine (FX.out W0 _ H0.out (by have := HLEN.out; simp only [List.length_append, List.length_cons, List.length_nil] at this ⊢; omega)).mono ?_
  rintro e W2 ⟨rfl, h2, o2⟩
  have H2 := Lib.hid h2; have O2 := Lib.hid (O0.out.trans o2)
  have B2 := Lib.hid (BB.out.ok8 o2 HNB.out (by decide))
  have e2 := B2.out.cell 2 rfl
  have g0 : W2.cell? ⟨0, i * 2, none⟩ = some (.string (st sg)) := cell_kept Q0.out h2.kp
  clear h2 o2 c0 c1 c2 c3 c4 f1 a0
  go_wp2_with fail
  refine (put_some [[32], sg, [32]] H2.out rfl rfl (by intro x hx; simp at hx; rcases hx with rfl | rfl | rfl; exact const_lt (by decide); exact HSGL.out; exact const_lt (by decide)) rfl (by simp) (by have := HLEN.out; simp only [List.length_append, List.length_cons, List.length_nil, List.flatten_cons, List.flatten_nil] at this ⊢; omega)).mono ?_
  rintro e W3 ⟨rfl, h3, o3⟩
  have H3 := Lib.hid h3; have O3 := Lib.hid (O2.out.trans o3)
  have B3 := Lib.hid (B2.out.ok8 o3 HNB.out (by decide))
  have e4 := B3.out.cell 4 rfl
  have a1 : W3.cell? ⟨ga, oa + 1, none⟩ = some (.int .i64 ry) := cell_kept (HAC.out 1 ry rfl) h3.kp
  clear h3 o3 e2 g0
  go_wp2_with fail
  refine (FY.out W3 _ H3.out (by have := HLEN.out; simp only [List.length_append, List.length_cons, List.length_nil, List.flatten_cons, List.flatten_nil] at this ⊢; omega)).mono ?_
  rintro e W4 ⟨rfl, h4, o4⟩
  have FIN : Hid (Q (.returned (.tuple #[])) W4) := Lib.hid (by
    rw [HQ.out]
    refine ⟨rfl, ?_, O3.out.trans o4⟩
    simpa only [List.append_assoc, List.flatten_cons, List.flatten_nil, List.append_nil, List.cons_append, List.nil_append] using h4)
  clear h4 o4 e4 a1
  go_wp2_with fail
  go_end0
  exact FIN.out
end By
end Go.Proofs.YtmflgfojicaecaaGreatDoor

/- The writer's call, given what the writing of what is below does. Conditions: the text has at most a thousand million bytes; at most a million arguments. -/
namespace Go.Proofs.YtmflgfojicaecaaGreatDoor
namespace By
open Go.RowKit WireN LexN SrcN
set_option linter.unusedVariables false
set_option linter.unusedSimpArgs false

theorem txt_at (psn : List (List Nat)) {ks : List T} {i : Nat} {t : T} (h : ks[i]? = some t) : ((wrTs psn ks).map fun (c : Nat → List Nat) => c 0)[i]? = some (wrT psn t 0) := by
  rw [wrTs_eq, List.map_map, List.getElem?_map, h]; rfl
theorem join_take_succ {sep : List Nat} {xs : List (List Nat)} {i : Nat} {x : List Nat} (h : xs[i]? = some x) : SrcN.join sep (xs.take (i + 1)) = if i = 0 then x else SrcN.join sep (xs.take i) ++ sep ++ x := by
  rw [List.take_add_one, h, Option.toList_some, join_snoc]
  by_cases hi : i = 0
  · subst hi; simp
  · rw [if_neg hi, if_neg]
    intro e
    have h1 : i < xs.length := (List.getElem?_eq_some_iff.1 h).1
    have := congrArg List.length e
    rw [List.length_take, List.length_nil] at this
    omega
set_option maxRecDepth 100000 in
set_option maxHeartbeats 2000000 in
theorem call_any {w0 w : World} {b : Nat} {d0 d1 d2 d3 : Value} {l nm : List Nat} {psn : List (List Nat)} {k num op : Int} {aa : Option Addr} {ac : Nat} {ks : List T} {rs : List Int} (hrs : rs.length = ks.length) (hA : Is w0 (.slice aa ks.length ac) rs) (hnm : Lt nm) (hK : Kids w0 b psn ks rs d0 d1 d2 d3) (h : Wt w0 w b l d0 d1 d2 d3)
    (hlen : l.length + (nm ++ [40] ++ SrcN.join [44, 32] ((wrTs psn ks).map fun (c : Nat → List Nat) => c 0) ++ [41]).length ≤ 1000000000) :
    Calls Tryz.prog 148 #[.pointer (some ⟨b, 0, none⟩), .agg (ecell k num op (st nm) (.slice aa ks.length ac))] w (Wrote w0 b (l ++ (nm ++ [40] ++ SrcN.join [44, 32] ((wrTs psn ks).map fun (c : Nat → List Nat) => c 0) ++ [41])) d0 d1 d2 d3 w) := by
  obtain ⟨xs, hxs⟩ : ∃ xs, xs = (wrTs psn ks).map fun (c : Nat → List Nat) => c 0 := ⟨_, rfl⟩
  have HAT : Hid (∀ (i : Nat) (t : T), ks[i]? = some t → xs[i]? = some (wrT psn t 0)) := Lib.hid (fun i t h => by rw [hxs]; exact txt_at psn h)
  have HXL : Hid (xs.length = ks.length) := Lib.hid (by rw [hxs, wrTs_eq]; simp)
  rw [← hxs] at hlen ⊢
  have HLEN := Lib.hid hlen
  obtain ⟨Q, hQ⟩ : ∃ Q, Q = Wrote w0 b (l ++ (nm ++ [40] ++ SrcN.join [44, 32] xs ++ [41])) d0 d1 d2 d3 w := ⟨_, rfl⟩
  rw [← hQ]
  have HQ := Lib.hid hQ
  obtain ⟨⟨ao, cc, e1, hal6, hcell⟩⟩ := hA
  simp only [Value.slice.injEq] at e1
  obtain ⟨rfl, hal, rfl⟩ := e1
  obtain ⟨al, hall⟩ : ∃ al, al = ks.length := ⟨_, rfl⟩
  have HCELL := Lib.hid hcell
  rw [hrs, ← hall] at hal6
  rw [← hall] at HXL hrs ⊢
  have HAL := Lib.hid hall; have HRS := Lib.hid hrs; have HK := Lib.hid hK; have HNM := Lib.hid hnm
  obtain ⟨W0, hW0⟩ : ∃ W0, W0 = w.alloc (Obj.cells (ecell k num op (st nm) (.slice aa al ac)) 57) := ⟨_, rfl⟩
  have k0 : Kp w W0 := by rw [hW0]; exact kp_alloc w _
  have bb : Blk W0 w.heap.size 57 (ecell k num op (st nm) (.slice aa al ac)) := by rw [hW0]; exact Blk.new _ _ _
  have HNB : Hid (w.heap.size ≠ b) := Lib.hid (by have := h.lt; omega)
  have H0 : Hid (Wt w0 W0 b l d0 d1 d2 d3) := Lib.hid (h.keep k0)
  have HW0 := Lib.hid hW0; have BB := Lib.hid bb
  have O0 : Hid (Ok8 b w W0) := Lib.hid (Ok8.of_kp k0)
  have HZ0 : Hid (w.heap.size + 1 = W0.heap.size) := Lib.hid (by rw [hW0]; simp)
  have c3 := bb.cell 3 rfl
  rw [hW0] at c3
  clear h hQ hW0 k0 bb hxs hlen hal hall hcell hrs hK hnm
  unfold ecell at *
  go_enter Tryz.func148, Tryz.ntmps148
  go_wp2_with fail
  rw [← HW0.out]
  refine (put_some [nm, [40]] H0.out HZ0.out rfl (by intro x hx; simp at hx; rcases hx with rfl | rfl; exact HNM.out; exact const_lt (by decide)) rfl (by simp) (by have := HLEN.out; simp only [List.length_append, List.length_cons, List.length_nil, List.flatten_cons, List.flatten_nil] at this ⊢; omega)).mono ?_
  rintro e W2 ⟨rfl, h2, o2⟩
  have H2 : Hid (Wt w0 W2 b (l ++ (nm ++ [40]) ++ SrcN.join [44, 32] (xs.take 0)) d0 d1 d2 d3) := Lib.hid (by simpa [SrcN.join] using h2)
  have O2 := Lib.hid (O0.out.trans o2)
  have e4 := (BB.out.ok8 o2 HNB.out (by decide)).cell 4 rfl
  clear h2 o2 c3
  go_wp2_with fail
  go_loopw [14] (fun iv wy => ∃ i : Nat, i ≤ al ∧ iv = .int .i64 i ∧ Hid (Wt w0 wy b (l ++ (nm ++ [40]) ++ SrcN.join [44, 32] (xs.take i)) d0 d1 d2 d3) ∧ Hid (Ok8 b w wy)) (fun iv _ => al - (intOf iv).toNat)
  case atStart => exact ⟨0, Nat.zero_le _, rfl, H2, O2⟩
  case round =>
    obtain ⟨i, hi, rfl, HW, HB⟩ := hrel
    rename World => wy
    by_cases hil : i < al
    · obtain ⟨t, ht⟩ : ∃ t, ks[i]? = some t := ⟨_, List.getElem?_eq_getElem (by have := HAL.out; omega)⟩
      obtain ⟨r, hr⟩ : ∃ r, rs[i]? = some r := ⟨_, List.getElem?_eq_getElem (by have := HRS.out; omega)⟩
      rcases HCELL.out with h0 | ⟨ga, oa, rfl, -, hc⟩
      · rw [h0] at hr; cases hr
      have k0 := cell_kept (hc i r hr) HW.out.kp
      have hx := HAT.out i t ht
      have HJ := Lib.hid (join_take_succ (sep := [44, 32]) hx)
      have hj2 := join_take_len [44, 32] xs (i + 1)
      obtain ⟨x, hxe⟩ : ∃ x, x = wrT psn t 0 := ⟨_, rfl⟩
      rw [← hxe] at HJ
      have HJ2 := Lib.hid hj2
      have C : Hid (∀ (w : World) (l : List Nat), Wt w0 w b l d0 d1 d2 d3 → l.length + x.length ≤ 1000000000 → Calls Tryz.prog 78 #[.pointer (some ⟨b, 0, none⟩), .int .i64 r, .int .i64 0] w (Wrote w0 b (l ++ x) d0 d1 d2 d3 w)) := Lib.hid (fun w l h1 h2 => by rw [hxe] at h2 ⊢; exact HK.out i t r ht hr w l 0 h1 (by omega) h2)
      clear ht hr hc hx hj2 hxe
      by_cases hi0 : i = 0
      · rw [if_pos hi0] at HJ
        have gi0 : decide (0 < i) = false := decide_eq_false (by omega)
        have HL : Hid ((l ++ (nm ++ [40])).length + x.length ≤ 1000000000) := Lib.hid (by
          have h1 := HLEN.out; have h2 := HJ2.out
          rw [HJ.out] at h2
          simp only [List.length_append, List.length_cons, List.length_nil] at h1 ⊢; omega)
        have HWX : Hid (Wt w0 wy b (l ++ (nm ++ [40])) d0 d1 d2 d3) := Lib.hid (by have := HW.out; rw [hi0] at this; simpa [SrcN.join] using this)
        clear hi0
        go_wp2_with fail
        refine (C.out wy _ HWX.out HL.out).mono ?_
        rintro e W5 ⟨rfl, h5, o5⟩
        have HW5 : Hid (Wt w0 W5 b (l ++ (nm ++ [40]) ++ SrcN.join [44, 32] (xs.take (i + 1))) d0 d1 d2 d3) := Lib.hid (by rw [HJ.out]; exact h5)
        have HB5 : Hid (Ok8 b w W5) := Lib.hid (HB.out.trans o5)
        clear h5 o5 k0
        go_wp2_with fail
        go_roundw
        case rel => exact ⟨i + 1, by omega, vint (by omega), HW5, HB5⟩
        case measure => simp [intOf]; omega
      · rw [if_neg hi0] at HJ
        have gi0 : decide (0 < i) = true := decide_eq_true (by omega)
        have HL : Hid ((l ++ (nm ++ [40]) ++ SrcN.join [44, 32] (xs.take i)).length + 2 + x.length ≤ 1000000000) := Lib.hid (by
          have h1 := HLEN.out; have h2 := HJ2.out
          rw [HJ.out] at h2
          simp only [List.length_append, List.length_cons, List.length_nil] at h1 h2 ⊢; omega)
        go_wp2_with fail
        refine (put_one (x := [44, 32]) HW.out rfl rfl (const_lt (by decide)) (by have := HL.out; simp only [List.length_cons, List.length_nil] at this ⊢; omega)).mono ?_
        rintro e W4 ⟨rfl, h4, o4⟩
        have HW4 := Lib.hid h4; have HB4 := Lib.hid (HB.out.trans o4)
        clear h4 o4 k0
        go_wp2_with fail
        refine (C.out W4 _ HW4.out (by have := HL.out; rw [List.length_append]; simp only [List.length_cons, List.length_nil] at this ⊢; omega)).mono ?_
        rintro e W5 ⟨rfl, h5, o5⟩
        have HW5 : Hid (Wt w0 W5 b (l ++ (nm ++ [40]) ++ SrcN.join [44, 32] (xs.take (i + 1))) d0 d1 d2 d3) := Lib.hid (by rw [HJ.out]; simpa only [List.append_assoc] using h5)
        have HB5 : Hid (Ok8 b w W5) := Lib.hid (HB4.out.trans o5)
        clear h5 o5
        go_wp2_with fail
        go_roundw
        case rel => exact ⟨i + 1, by omega, vint (by omega), HW5, HB5⟩
        case measure => simp [intOf]; omega
    · have HWX : Hid (Wt w0 wy b (l ++ (nm ++ [40]) ++ SrcN.join [44, 32] xs) d0 d1 d2 d3) := Lib.hid (by
        have := HW.out
        rw [List.take_of_length_le (by have := HXL.out; omega)] at this
        exact this)
      go_wp2_with fail
      refine (put_one (x := [41]) HWX.out rfl rfl (const_lt (by decide)) (by have := HLEN.out; simp only [List.length_append, List.length_cons, List.length_nil] at this ⊢; omega)).mono ?_
      rintro e W5 ⟨rfl, h5, o5⟩
      have FIN : Hid (Q (.returned (.tuple #[])) W5) := Lib.hid (by
        rw [HQ.out]
        refine ⟨rfl, ?_, HB.out.trans o5⟩
        simpa only [List.append_assoc] using h5)
      clear h5 o5
      go_wp2_with fail
      go_end0
      exact FIN.out
end By
end Go.Proofs.YtmflgfojicaecaaGreatDoor
