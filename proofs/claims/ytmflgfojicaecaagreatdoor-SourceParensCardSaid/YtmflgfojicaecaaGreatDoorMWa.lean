/- The writer in memory: a builder and a declaration in one block; WriteString and String at it. Conditions: the text has at most a thousand million bytes. -/
import Derived.Test.YtmflgfojicaecaaGreatDoorMCa
import Derived.Lib.Builder
import Derived.Lib.AppendStr
import Derived.Lib.UnsafeStr
import Derived.Lib.Walk
import Derived.Lib.Strings
import Derived.Laws.Externs
import Derived.Test.YtmflgfojicaecaaGreatDoorMCb
import Derived.Test.YtmflgfojicaecaaGreatDoorMVa
import Derived.Lib.OthersKept
namespace Go.Proofs.YtmflgfojicaecaaGreatDoor
namespace By
open Go.RowKit WireN LexN SrcN
set_option linter.unusedVariables false
set_option linter.unusedSimpArgs false

theorem sizeBu : (Tryz.prog.info? 71).map (·.size) = some 2 := by kernel_rfl
theorem liesWr : liesAt Tryz.prog Tryz.prog.depth 73 (6 / Tryz.prog.cellsOf 73) 0 71 1 = true := by kernel_rfl
theorem infoU8 : (Tryz.prog.info? 5).map (fun i => (i.zero, i.size, i.bytes)) = some (some (.int .u8 0), 1, 1) := by kernel_rfl
theorem strCells_st {x : List Nat} (h : Lt x) : Lib.strCells (st x) = U x := by
  have e : Lib.strCells (st x) = U (bs (st x)) := by simp [Lib.strCells, U, bs, List.map_map, Function.comp_def]
  rw [e, bs_st h]
/-- The writer in block b, with its buffer v and its text l; its declaration's cells d0 to d3. -/
structure Wb (w : World) (B b : Nat) (p v : Value) (l : List Nat) (d0 d1 d2 d3 : Value) : Prop where
  blk : Blk w b 73 #[p, v, d0, d1, d2, d3]
  pp : p = .pointer none ∨ p = .pointer (some ⟨b, 0, none⟩)
  own : w.ownsRow B 5 1 v l.length (U l)
  ne : v.ownBlock ≠ some b
  ge : B ≤ b
  lt : Lt l
theorem owns_kept {w w' : World} {B : Nat} {e : TypeId} {v : Value} {n : Nat} {cs : List Value} (h : w.ownsRow B e 1 v n cs) (hk : ∀ g, v.ownBlock = some g → w'.heap[g]? = w.heap[g]?) : w'.ownsRow B e 1 v n cs := by
  refine ⟨h.1, ?_⟩
  rcases h.2 with hn | ⟨g, cap, cur, he, hb, hg, r⟩
  · exact .inl hn
  · exact .inr ⟨g, cap, cur, he, hb, by rw [hk g (by rw [he]; rfl)]; exact hg, r⟩
theorem Wb.keep {w w' : World} {B b : Nat} {p v d0 d1 d2 d3 : Value} {l : List Nat} (h : Wb w B b p v l d0 d1 d2 d3) (hk : Kp w w') : Wb w' B b p v l d0 d1 d2 d3 :=
  ⟨h.blk.keep hk, h.pp, owns_kept h.own (fun g hg => hk.block g (h.own.lt g hg).2), h.ne, h.ge, h.lt⟩
/-- What a write changes: the writer's block, its buffer's block, and new memory. -/
structure FrW (b : Nat) (v : Value) (w w' : World) : Prop where
  os : w'.os = w.os
  tape : w'.tape = w.tape
  output : w'.output = w.output
  size : w.heap.size ≤ w'.heap.size
  block : ∀ k, k < w.heap.size → k ≠ b → v.ownBlock ≠ some k → w'.heap[k]? = w.heap[k]?
theorem FrW.kp {b : Nat} {v : Value} {w0 w w' : World} (h : FrW b v w w') (hk : Kp w0 w) (hb : w0.heap.size ≤ b) (hv : ∀ k, v.ownBlock = some k → w0.heap.size ≤ k) : Kp w0 w' :=
  Below.trans hk ⟨h.os, h.tape, h.output, h.size, fun k hk' => h.block k (Nat.lt_of_lt_of_le hk' hk.size) (by omega) (fun e => by have := hv k e; omega)⟩
theorem FrW.blk {b g : Nat} {v : Value} {w w' : World} {t : TypeId} {cs : Array Value} (h : FrW b v w w') (hg : Blk w g t cs) (h1 : g ≠ b) (h2 : v.ownBlock ≠ some g) : Blk w' g t cs := (h.block g hg.lt h1 h2).trans hg
set_option maxHeartbeats 1000000 in
set_option maxRecDepth 100000 in
theorem copyCheck_usedW (b : Nat) (w : World) (h0 : w.cell? ⟨b, 0, none⟩ = some (.pointer (some ⟨b, 0, none⟩))) :
    Calls Tryz.prog 143 #[.pointer (some ⟨b, 0, none⟩)] w fun e w' => e = .returned (.tuple #[]) ∧ w' = w := by
  obtain ⟨j, hj, _⟩ := Option.map_eq_some_iff.1 sizeBu
  have HJ := Lib.hid hj
  clear hj
  go_enter Tryz.func143, Tryz.ntmps143
  go_wp2
  rw [Lib.run_neq_ptr_same w _ Tryz.underlying68 HJ.out]
  go_wp2
  go_end0
  exact ⟨rfl, rfl⟩
set_option maxHeartbeats 1000000 in
set_option maxRecDepth 100000 in
theorem copyCheck_freshW (b : Nat) (w : World) (h0 : w.cell? ⟨b, 0, none⟩ = some (.pointer none)) (hsh : w.shape? b = some (73, 6)) (hfz : w.frozen? ⟨b, 0, none⟩ = false) :
    Calls Tryz.prog 143 #[.pointer (some ⟨b, 0, none⟩)] w fun e w' => e = .returned (.tuple #[]) ∧ w' = w.setCell ⟨b, 0, none⟩ (.pointer (some ⟨b, 0, none⟩)) := by
  obtain ⟨j, hj, hjs⟩ := Option.map_eq_some_iff.1 sizeBu
  have HJ := Lib.hid hj; have HJS := Lib.hid hjs; have HSH := Lib.hid hsh
  clear hj hjs hsh
  go_enter Tryz.func143, Tryz.ntmps143
  go_wp2
  rw [Lib.run_to_unsafe w ⟨b, 0, none⟩ Tryz.underlying68 Tryz.underlying162 HJ.out (by rw [HJS.out]; decide) HSH.out (Nat.zero_lt_succ 5)]
  simp only [Result.andThen]
  rw [Oper.upon_value]
  go_wp2
  rw [run_callFunc_extern Tryz.func159 (by kernel_rfl) (by kernel_rfl) (by kernel_rfl) (e := Extern.AbiNoEscape.same) (by kernel_rfl)]
  rw [Lib.run_noEscape]
  simp only [Result.andThen]
  rw [Oper.upon_value]
  go_wp2
  rw [Lib.run_from_unsafe w ⟨b, 0, none⟩ Tryz.underlying162 Tryz.underlying68 HJ.out HSH.out liesWr]
  simp only [Result.andThen]
  rw [Oper.upon_value]
  go_wp2
  go_end0
  exact ⟨rfl, rfl⟩
theorem Blk.shape {w : World} {g : Nat} {t : TypeId} {cs : Array Value} (h : Blk w g t cs) : w.shape? g = some (t, cs.size) := by
  have h' : w.heap[g]? = some (.cells cs t (0, 0)) := h
  simp [World.shape?, h']
theorem copyCheck_w {w : World} {B b : Nat} {p v d0 d1 d2 d3 : Value} {l : List Nat} (h : Wb w B b p v l d0 d1 d2 d3) :
    Calls Tryz.prog 143 #[.pointer (some ⟨b, 0, none⟩)] w fun e w' => e = .returned (.tuple #[]) ∧ Wb w' B b (.pointer (some ⟨b, 0, none⟩)) v l d0 d1 d2 d3 ∧ Only b w w' := by
  rcases h.pp with rfl | rfl
  · refine (copyCheck_freshW b w (h.blk.cell 0 rfl) h.blk.shape (h.blk.free 0)).mono ?_
    rintro e w' ⟨rfl, rfl⟩
    have ho := (Only.refl b w).set 0 (.pointer (some ⟨b, 0, none⟩))
    exact ⟨rfl, ⟨h.blk.set 0 _, .inr rfl, owns_kept h.own (fun g hg => ho.block g (fun e => h.ne (by rw [hg, e]))), h.ne, h.ge, h.lt⟩, ho⟩
  · refine (copyCheck_usedW b w (h.blk.cell 0 rfl)).mono ?_
    rintro e w' ⟨rfl, rfl⟩
    exact ⟨rfl, h, Only.refl _ _⟩
set_option maxHeartbeats 2000000 in
set_option maxRecDepth 100000 in
theorem WriteString_w {w : World} {B b : Nat} {p v d0 d1 d2 d3 : Value} {l x : List Nat} (h : Wb w B b p v l d0 d1 d2 d3) (hx : Lt x) (hlen : l.length + x.length ≤ 1000000000) (hB : B ≤ w.heap.size) :
    Calls Tryz.prog 108 #[.pointer (some ⟨b, 0, none⟩), .string (st x)] w fun e w' => e = .returned (.tuple #[.int .i64 (x.length : Nat), .nilIface]) ∧ ∃ v', Wb w' B b (.pointer (some ⟨b, 0, none⟩)) v' (l ++ x) d0 d1 d2 d3 ∧ FrW b v w w' := by
  obtain ⟨i0, hi, hz0, hz1, hz2⟩ := info_parts infoU8
  have H := Lib.hid h; have HXL := Lib.hid hx
  have HSZ : Hid ((st x).size = x.length) := Lib.hid (st_size x)
  have HSC := Lib.hid (strCells_st hx)
  obtain ⟨S, hS⟩ : ∃ S, S = st x := ⟨_, rfl⟩
  rw [← hS] at HSZ HSC ⊢
  obtain ⟨ll, hll⟩ : ∃ n, n = l.length := ⟨_, rfl⟩
  obtain ⟨xl, hxl⟩ : ∃ n, n = x.length := ⟨_, rfl⟩
  rw [← hxl] at HSZ ⊢
  rw [← hll, ← hxl] at hlen
  have HLL := Lib.hid hll; have HXLN := Lib.hid hxl
  clear h hx hS hll hxl
  go_enter Tryz.func108, Tryz.ntmps108
  go_wp2_with fail
  refine (copyCheck_w H.out).mono ?_
  rintro e w1 ⟨rfl, h1, ho⟩
  have HO := Lib.hid ho; have H1 := Lib.hid h1
  have hsz1 : w1.heap.size = w.heap.size := by have := ho.size; omega
  have c0 := h1.blk.cell 0 rfl
  have c1 := h1.blk.cell 1 rfl
  have hown : Hid (w1.ownsRow B 5 1 v ll (U l)) := Lib.hid (by rw [HLL.out]; exact h1.own)
  clear h1 ho
  go_wp2_with (at_builtin; refine Lib.wpList_append_own_string _ rfl _ _ 69 9 rfl B 5 i0 Tryz.underlying69 Tryz.underlying9 hi hz0 hz1 hz2 _ _ _ rfl hown.out S rfl ?c3 ?c4 ?c5 ?_)
  case c3 => rw [HSZ.out]; unfold maxLen; omega
  case c4 => rw [HSZ.out]; omega
  case c5 => omega
  intro v' w2 hown' hgrow _
  have hblt := H1.out.blk.lt
  have b2 : Blk w2 b 73 #[.pointer (some ⟨b, 0, none⟩), v, d0, d1, d2, d3] := (hgrow.block b hblt (fun e => H1.out.ne e.symm)).trans H1.out.blk
  have e0 := b2.cell 0 rfl
  have e1 := b2.cell 1 rfl
  have f1 := b2.free 1
  obtain ⟨ao, n', cap, rfl⟩ : ∃ ao n' cap, v' = .slice ao n' cap := by
    rcases hown'.2 with ⟨hv, _⟩ | ⟨g, cap, cur, hv, _⟩
    · exact ⟨_, _, _, hv⟩
    · exact ⟨_, _, _, hv⟩
  have hne' : (Value.slice ao n' cap).ownBlock ≠ some b := by
    intro e
    rcases hown'.2 with ⟨hv, _⟩ | ⟨g, cap', cur, hv, hbg, hg, _⟩
    · rw [hv] at e; simp [Value.ownBlock] at e
    · rw [hv] at e
      simp [Value.ownBlock] at e
      subst e
      have b2' : w2.heap[g]? = some (.cells #[.pointer (some ⟨g, 0, none⟩), v, d0, d1, d2, d3] 73 (0, 0)) := b2
      rw [b2'] at hg
      injection hg with hg
      injection hg with _ ht _
      exact absurd ht (by decide)
  obtain ⟨wz, hwz⟩ : ∃ wz, wz = w2.setCell ⟨b, 1, none⟩ (.slice ao n' cap) := ⟨_, rfl⟩
  have FIN : ∃ v', Wb wz B b (.pointer (some ⟨b, 0, none⟩)) v' (l ++ x) d0 d1 d2 d3 ∧ FrW b v w wz := by
    have hoz := (Only.refl b w2).set 1 (.slice ao n' cap)
    rw [← hwz] at hoz
    refine ⟨.slice ao n' cap, ⟨by rw [hwz]; exact b2.set 1 _, .inr rfl, ?_, hne', H1.out.ge, H1.out.lt.append HXL.out⟩, ⟨?_, ?_, ?_, ?_, ?_⟩⟩
    · rw [List.length_append, U_append, ← HLL.out, ← HXLN.out, ← HSZ.out, ← HSC.out]
      exact owns_kept hown' (fun g hg => hoz.block g (fun e => hne' (by rw [hg, e])))
    · rw [hoz.os, hgrow.os]; exact HO.out.os
    · rw [hoz.tape, hgrow.tape]; exact HO.out.tape
    · rw [hoz.output, hgrow.output]; exact HO.out.output
    · have := hoz.size; have := hgrow.size; omega
    · intro k hk hkb hkv
      rw [hoz.block k hkb, hgrow.block k (by omega) (fun e => hkv e.symm)]
      exact HO.out.block k hkb
  have HF := Lib.hid FIN; have HWZ := Lib.hid hwz
  clear FIN hwz hne' hown' hgrow b2
  go_wp2
  go_ret2
  rw [← HWZ.out]
  exact ⟨by rw [HSZ.out]; rfl, HF.out⟩
set_option maxHeartbeats 2000000 in
set_option maxRecDepth 100000 in
theorem String_w {w : World} {B b : Nat} {p v d0 d1 d2 d3 : Value} {l : List Nat} (h : Wb w B b p v l d0 d1 d2 d3) (h0 : l ≠ []) (hlen : l.length ≤ 1000000000) :
    Calls Tryz.prog 42 #[.pointer (some ⟨b, 0, none⟩)] w fun e w' => e = .returned (.string (st l)) ∧ Below B w w' := by
  have hl0 : l.length ≠ 0 := by simpa using h0
  obtain ⟨g, cap, cur, rfl, hbg, hg, hnc, hcm, hcs, htake⟩ : ∃ g cap cur, v = .slice (some ⟨g, 0, none⟩) l.length cap ∧ B ≤ g ∧ w.heap[g]? = some (.cells cur 5 (0, 0)) ∧ l.length ≤ cap ∧ cap ≤ maxLen ∧ cur.size = cap * 1 ∧ cur.toList.take (l.length * 1) = U l := by
    rcases h.own.2 with ⟨_, hz⟩ | ⟨g, cap, cur, hv, r⟩
    · exact absurd hz hl0
    · exact ⟨g, cap, cur, hv, r⟩
  have hblk' : w.drew.heap[b]? = some (.cells #[p, .slice (some ⟨g, 0, none⟩) l.length cap, d0, d1, d2, d3] 73 (0, 0)) := h.blk
  have c1 : w.drew.cell? ⟨b, 1, none⟩ = some (.slice (some ⟨g, 0, none⟩) l.length cap) := by
    rw [Lib.cell_of_heap hblk']; rfl
  have hSD : (Builtin.unsafeSliceData_ #[69] 105 #[.slice (some ⟨g, 0, none⟩) l.length cap]).run Tryz.prog w.drew = .ok (.pointer (some ⟨g, 0, none⟩)) w.drew :=
    Lib.run_unsafeSliceData_row _ _ _ _ _ _ (by omega)
  have hUS : (Builtin.unsafeString_ #[105, 3] 9 #[.pointer (some ⟨g, 0, none⟩), .int .i64 l.length]).run Tryz.prog w.drew = .ok (.string (st l)) (w.drew.freeze ⟨g, 0, none⟩ l.length) := by
    have e := Lib.run_unsafeString_row (P := Tryz.prog) w.drew 105 3 9 5 Tryz.underlying105 (by kernel_rfl) g cur.size (by have hg' : w.drew.heap[g]? = some (.cells cur 5 (0, 0)) := hg; simp [World.shape?, hg']) (l.map fun n => UInt8.ofNat n) (by simpa using h0) (by rw [List.length_map]; omega) (by rw [List.length_map]; unfold maxLen at hcm; omega) (by
      intro j x hx
      rw [List.getElem?_map] at hx
      obtain ⟨c, hc, rfl⟩ := Option.map_eq_some_iff.1 hx
      have hlt := h.lt.mem (List.mem_of_getElem? hc)
      have := h.own.cells (g := g) rfl j (.int .u8 (c : Nat)) (by simp [U, hc])
      have e2 : ((UInt8.ofNat c).toNat : Int) = (c : Int) := by simp; omega
      rw [e2]
      exact this)
    rw [List.length_map] at e
    exact e
  obtain ⟨n, hn⟩ : ∃ n, n = l.length := ⟨_, rfl⟩
  obtain ⟨S, hS⟩ : ∃ S, S = st l := ⟨_, rfl⟩
  rw [← hn] at c1 hSD hUS
  rw [← hS] at hUS ⊢
  have HBG := Lib.hid hbg
  clear hn hS h h0 hl0 hlen hg hnc hcm hcs htake hblk' hbg
  go_enter Tryz.func42, Tryz.ntmps42
  go_wp2
  go_region
  all_goals (go_wp2; go_ret; exact ⟨rfl, Lib.below_freeze (Below.drew (Below.refl B w)) (p := ⟨g, 0, none⟩) HBG.out _⟩)
end By
end Go.Proofs.YtmflgfojicaecaaGreatDoor

/- The writer's put and the levels of nodes. Conditions: the text has at most a thousand million bytes; the table of operators lies in memory. -/
namespace Go.Proofs.YtmflgfojicaecaaGreatDoor
namespace By
open Go.RowKit WireN LexN SrcN
set_option linter.unusedVariables false
set_option linter.unusedSimpArgs false

/-- The writer lies at b and has the text l; what was in memory at w0 is as it was. -/
structure Wt (w0 w : World) (b : Nat) (l : List Nat) (d0 d1 d2 d3 : Value) : Prop where
  ex : ∃ p v, Wb w w0.heap.size b p v l d0 d1 d2 d3
  kp : Kp w0 w
theorem Wt.keep {w0 w w' : World} {b : Nat} {l : List Nat} {d0 d1 d2 d3 : Value} (h : Wt w0 w b l d0 d1 d2 d3) (hk : Kp w w') : Wt w0 w' b l d0 d1 d2 d3 := by
  obtain ⟨p, v, h1⟩ := h.ex
  exact ⟨⟨p, v, h1.keep hk⟩, Kp.trans h.kp hk⟩
theorem Wt.lt {w0 w : World} {b : Nat} {l : List Nat} {d0 d1 d2 d3 : Value} (h : Wt w0 w b l d0 d1 d2 d3) : b < w.heap.size := by
  obtain ⟨p, v, h1⟩ := h.ex
  exact h1.blk.lt
theorem Wt.cells {w0 w : World} {b : Nat} {l : List Nat} {d0 d1 d2 d3 : Value} (h : Wt w0 w b l d0 d1 d2 d3) : w.cell? ⟨b, 2, none⟩ = some d0 ∧ w.cell? ⟨b, 3, none⟩ = some d1 ∧ w.cell? ⟨b, 4, none⟩ = some d2 ∧ w.cell? ⟨b, 5, none⟩ = some d3 := by
  obtain ⟨p, v, h1⟩ := h.ex
  exact ⟨h1.blk.cell 2 rfl, h1.blk.cell 3 rfl, h1.blk.cell 4 rfl, h1.blk.cell 5 rfl⟩
/-- All blocks but b and the rows of bytes are as they were. -/
abbrev Ok8 (b : Nat) (w w' : World) : Prop := Lib.OthersKept 5 (some b) w w'
theorem Ok8.of_kp {b : Nat} {w w' : World} (h : Kp w w') : Ok8 b w w' := fun k o hk _ _ => (h.block k (Array.getElem?_eq_some_iff.1 hk).1).trans hk
theorem Blk.ok8 {b g : Nat} {w w' : World} {t : TypeId} {cs : Array Value} (h : Blk w g t cs) (ho : Ok8 b w w') (hg : g ≠ b) (ht : t ≠ 5) : Blk w' g t cs :=
  ho g _ h (fun e => hg (by injection e)) (fun c fz e => ht (by injection e))
theorem Wb.ok8 {w w' : World} {B b : Nat} {p v d0 d1 d2 d3 : Value} {l : List Nat} (h : Wb w B b p v l d0 d1 d2 d3) (hf : FrW b v w w') : Ok8 b w w' := by
  intro k o hk hb ho
  refine (hf.block k (Array.getElem?_eq_some_iff.1 hk).1 (fun e => hb (by rw [e])) (fun e => ?_)).trans hk
  rcases h.own.2 with ⟨hv, _⟩ | ⟨g', cap, cur, hv, hbg, hx, _⟩
  · rw [hv] at e; simp [Value.ownBlock] at e
  · rw [hv] at e
    simp [Value.ownBlock] at e
    subst e
    rw [hx] at hk
    exact ho cur (0, 0) (Option.some.inj hk).symm
theorem WriteString_t {w0 w : World} {b : Nat} {d0 d1 d2 d3 : Value} {l x : List Nat} (h : Wt w0 w b l d0 d1 d2 d3) (hx : Lt x) (hlen : l.length + x.length ≤ 1000000000) :
    Calls Tryz.prog 108 #[.pointer (some ⟨b, 0, none⟩), .string (st x)] w fun e w' => ∃ u, e = .returned (.tuple #[.int .i64 u, .nilIface]) ∧ Wt w0 w' b (l ++ x) d0 d1 d2 d3 ∧ Ok8 b w w' := by
  obtain ⟨p, v, h1⟩ := h.ex
  refine (WriteString_w h1 hx hlen h.kp.size).mono ?_
  rintro e w' ⟨rfl, v', h2, hf⟩
  exact ⟨_, rfl, ⟨⟨_, v', h2⟩, hf.kp h.kp h1.ge (fun k hk => (h1.own.lt k hk).1)⟩, h1.ok8 hf⟩
theorem flatten_take {xs : List (List Nat)} {i : Nat} {x : List Nat} (h : xs[i]? = some x) : (xs.take (i + 1)).flatten = (xs.take i).flatten ++ x := by
  rw [List.take_add_one, h]
  simp
theorem flatten_len_take (xs : List (List Nat)) (i : Nat) : (xs.take i).flatten.length ≤ xs.flatten.length := by
  have : xs.flatten = (xs.take i).flatten ++ (xs.drop i).flatten := by rw [← List.flatten_append, List.take_append_drop]
  rw [this, List.length_append]; omega
/-- What a part of the writer answers: the text has grown, and but for the writer and rows of bytes all is as it was. -/
def Wrote (w0 : World) (b : Nat) (l : List Nat) (d0 d1 d2 d3 : Value) (w : World) (e : Ending) (w' : World) : Prop := e = .returned (.tuple #[]) ∧ Wt w0 w' b l d0 d1 d2 d3 ∧ Ok8 b w w'
set_option maxRecDepth 100000 in
set_option maxHeartbeats 4000000 in
theorem put_any {w0 w : World} {b pb : Nat} {d0 d1 d2 d3 : Value} {l : List Nat} {parts : List (List Nat)} (h : Wt w0 w b l d0 d1 d2 d3) (hP : Blk w pb 9 (parts.map fun x => Value.string (st x)).toArray) (hpb : pb ≠ b) (hlt : ∀ x ∈ parts, Lt x) (hn : parts.length ≤ 5) (hlen : l.length + parts.flatten.length ≤ 1000000000) :
    Calls Tryz.prog 69 #[.pointer (some ⟨b, 0, none⟩), .slice (some ⟨pb, 0, none⟩) parts.length parts.length] w (Wrote w0 b (l ++ parts.flatten) d0 d1 d2 d3 w) := by
  obtain ⟨Q, hQ⟩ : ∃ Q, Q = Wrote w0 b (l ++ parts.flatten) d0 d1 d2 d3 w := ⟨_, rfl⟩
  have HQ := Lib.hid hQ
  rw [← hQ]
  have HLT := Lib.hid hlt; have HLEN := Lib.hid hlen; have H0 := Lib.hid h; have HP0 := Lib.hid hP; have HPB := Lib.hid hpb
  obtain ⟨n, hnn⟩ : ∃ n, n = parts.length := ⟨_, rfl⟩
  rw [← hnn] at hn ⊢
  have HN := Lib.hid hnn
  clear h hP hlt hlen hQ hnn hpb
  go_enter Tryz.func69, Tryz.ntmps69
  go_wp2_with fail
  go_loopw [8] (fun iv wy => ∃ i : Nat, i ≤ n ∧ iv = .int .i64 i ∧ Hid (Wt w0 wy b (l ++ (parts.take i).flatten) d0 d1 d2 d3) ∧ Hid (Ok8 b w wy)) (fun iv _ => n - (intOf iv).toNat)
  case atStart => exact ⟨0, Nat.zero_le _, rfl, Lib.hid (by simpa using H0.out), Lib.hid (Lib.OthersKept.refl _ _ _)⟩
  case round =>
    obtain ⟨i, hi, rfl, HW, HB⟩ := hrel
    rename World => wy
    by_cases hil : i < n
    · obtain ⟨x, hx⟩ : ∃ x, parts[i]? = some x := ⟨_, List.getElem?_eq_getElem (by have := HN.out; omega)⟩
      have hb0 : Blk wy pb 9 (parts.map fun x => Value.string (st x)).toArray := HP0.out.ok8 HB.out HPB.out (by decide)
      have k0 : wy.cell? ⟨pb, i, none⟩ = some (.string (st x)) := hb0.cell i (by simp [hx])
      have hl1 := HLEN.out
      have hl2 := flatten_len_take parts (i + 1)
      have hl3 := flatten_take hx
      rw [hl3, List.length_append] at hl2
      have C := Lib.hid (WriteString_t HW.out (HLT.out x (List.mem_of_getElem? hx)) (by rw [List.length_append]; omega))
      have HX : Hid (l ++ (parts.take i).flatten ++ x = l ++ (parts.take (i + 1)).flatten) := Lib.hid (by rw [hl3, List.append_assoc])
      obtain ⟨S, hS⟩ : ∃ S, S = st x := ⟨_, rfl⟩
      rw [← hS] at k0 C
      clear hx hl1 hl2 hl3 hS hb0
      go_wp2_with fail
      refine C.out.mono ?_
      rintro e w2 ⟨u, rfl, h2, hb2⟩
      have HW2 : Hid (Wt w0 w2 b (l ++ (parts.take (i + 1)).flatten) d0 d1 d2 d3) := Lib.hid (by rw [← HX.out]; exact h2)
      have HB2 : Hid (Ok8 b w w2) := Lib.hid (HB.out.trans hb2)
      clear h2 hb2 k0
      go_wp2_with fail
      go_roundw
      case rel => exact ⟨i + 1, by omega, vint (by omega), HW2, HB2⟩
      case measure => simp [intOf]; omega
    · have FIN : Hid (Q (.returned (.tuple #[])) wy) := Lib.hid (by
        rw [HQ.out]
        refine ⟨rfl, ?_, HB.out⟩
        have := HW.out
        rw [List.take_of_length_le (by have := HN.out; omega)] at this
        exact this)
      go_wp2_with fail
      go_end0
      exact FIN.out
/-- The cells of an operator. -/
theorem op_cells {o : Int} (h1 : 1 ≤ o) (h2 : o ≤ 7) : ∃ i : Nat, o = (i : Int) ∧ i ≤ 7 ∧ 1 ≤ i ∧ opsCells[i * 2]? = some (.string (st (opSg o))) ∧ opsCells[i * 2 + 1]? = some (.int .i64 (opLv o : Nat)) := by
  obtain rfl | rfl | rfl | rfl | rfl | rfl | rfl : o = 1 ∨ o = 2 ∨ o = 3 ∨ o = 4 ∨ o = 5 ∨ o = 6 ∨ o = 7 := by omega
  · exact ⟨1, rfl, by omega, by omega, rfl, rfl⟩
  · exact ⟨2, rfl, by omega, by omega, rfl, rfl⟩
  · exact ⟨3, rfl, by omega, by omega, rfl, rfl⟩
  · exact ⟨4, rfl, by omega, by omega, rfl, rfl⟩
  · exact ⟨5, rfl, by omega, by omega, rfl, rfl⟩
  · exact ⟨6, rfl, by omega, by omega, rfl, rfl⟩
  · exact ⟨7, rfl, by omega, by omega, rfl, rfl⟩
set_option maxRecDepth 100000 in
set_option maxHeartbeats 2000000 in
theorem levelOf_any {w : World} (hG : Glob w) {k num op : Int} {S : ByteArray} {aa : Option Addr} {al ac : Nat} (ho : k = 4 → 1 ≤ op ∧ op ≤ 7) :
    Calls Tryz.prog 115 #[.agg #[.int .i64 k, .int .i64 num, .int .i64 op, .string S, .slice aa al ac]] w fun e w' => e = .returned (.int .i64 (lvOf k op : Nat)) ∧ Kp w w' := by
  obtain ⟨W0, hW0⟩ : ∃ W0, W0 = w.alloc (Obj.cells #[.int .i64 k, .int .i64 num, .int .i64 op, .string S, .slice aa al ac] 57) := ⟨_, rfl⟩
  have k0 : Kp w W0 := by rw [hW0]; exact kp_alloc w _
  have bb : Blk W0 w.heap.size 57 #[.int .i64 k, .int .i64 num, .int .i64 op, .string S, .slice aa al ac] := by rw [hW0]; exact Blk.new _ _ _
  have c0 := bb.cell 0 rfl; have c2 := bb.cell 2 rfl
  have K0 := Lib.hid k0; have HG := Lib.hid (hG.kp' k0)
  have HW0 := Lib.hid hW0
  obtain ⟨L, hL⟩ : ∃ L, L = lvOf k op := ⟨_, rfl⟩
  rw [← hL]
  have HL := Lib.hid hL
  clear k0 bb hG hL
  by_cases h5 : k = 5
  · subst h5
    rw [hW0] at c0 c2
    clear hW0
    go_enter Tryz.func115, Tryz.ntmps115
    go_wp2_with fail
    go_ret
    rw [← HW0.out]
    exact ⟨by rw [HL.out]; rfl, K0.out⟩
  · have n5 : ((k : Int) == 5) = false := by simpa using h5
    by_cases h4 : k = 4
    · obtain ⟨i, rfl, hi7, hi1, e0, e1⟩ := op_cells (ho h4).1 (ho h4).2
      have q1 := HG.out.op _ _ e1
      have HE : Hid (opLv (i : Int) = L) := Lib.hid (by rw [HL.out, h4]; rfl)
      rw [HE.out] at q1
      subst h4
      rw [hW0] at c0 c2 q1
      clear hW0 h5 n5 ho e0 e1
      go_enter Tryz.func115, Tryz.ntmps115
      go_wp2_with fail
      go_ret
      rw [← HW0.out]
      exact ⟨rfl, K0.out⟩
    · have n4 : ((k : Int) == 4) = false := by simpa using h4
      have HE : Hid (L = 4) := Lib.hid (by rw [HL.out]; unfold lvOf; rw [if_neg h5, if_neg h4])
      rw [hW0] at c0 c2
      clear hW0 h5 h4 ho
      go_enter Tryz.func115, Tryz.ntmps115
      go_wp2_with fail
      go_ret
      rw [← HW0.out]
      exact ⟨by rw [HE.out]; rfl, K0.out⟩
end By
end Go.Proofs.YtmflgfojicaecaaGreatDoor
