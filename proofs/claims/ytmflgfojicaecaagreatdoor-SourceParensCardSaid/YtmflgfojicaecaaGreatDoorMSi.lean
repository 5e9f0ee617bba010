/- The lexer's tokens are a good list. Condition: the text's bytes are less than 256. -/
import Derived.Test.YtmflgfojicaecaaGreatDoorMSh
import Derived.Test.YtmflgfojicaecaaGreatDoorSFlB
import Derived.Recover
import Derived.Laws.Pointers
namespace Go.Proofs.YtmflgfojicaecaaGreatDoor
namespace By
open Go.RowKit WireN LexN SrcN
set_option linter.unusedVariables false
set_option linter.unusedSimpArgs false

theorem lt_takeT {xs : List Nat} (hx : Lt xs) (k : Nat) : Lt (xs.take k) := by
  intro i
  have := hx i
  rw [List.getElem?_take]
  split
  · exact this
  · simp
theorem lt_subT {l : List Nat} (h : Lt l) (i j : Nat) : Lt (sub l i j) := by
  unfold sub
  exact (lt_takeT h _).drop _
theorem lt_atT {l : List Nat} (h : Lt l) (i : Nat) : at' l i < 256 := h i
theorem tok_ok {l : List Nat} {i : Nat} (hlt : Lt l) (hll : l.length ≤ 16384) (h : i < l.length) (he : (tok l i).2.2 = 0) : TokOk (tok l i).1 := by
  unfold tok at *
  by_cases h1 : letter (at' l i) = true
  · rw [if_pos h1] at *
    by_cases h2 : 24 < spn inner l i - i
    · rw [if_pos h2] at he; simp at he
    · rw [if_neg h2]
      have := sub_len (l := l) (i := i) (j := spn inner l i) (spn_le _ (by omega))
      have h6 := spn_le inner (l := l) (i := i) (by omega)
      exact ⟨lt_subT hlt _ _, by simp only; omega, by simp only; omega, by simp only; omega, by simp only; omega⟩
  · rw [if_neg h1] at *
    by_cases h2 : digit (at' l i) = true
    · rw [if_pos h2] at *
      by_cases h3 : 9007199254740992 < digits (sub l i (spn digit l i))
      · rw [if_pos h3] at he; simp at he
      · rw [if_neg h3]
        exact ⟨Lt.nil, by simp, by simp only; omega, by simp only; omega, by simp only; omega⟩
    · rw [if_neg h2] at *
      by_cases h3 : at' l i = 34
      · rw [if_pos h3] at *
        by_cases h4 : spn txt l (i + 1) = l.length ∨ at' l (spn txt l (i + 1)) ≠ 34
        · rw [if_pos h4] at he; simp at he
        · rw [if_neg h4]
          have h6 := spn_le txt (l := l) (i := i + 1) (by omega)
          have := sub_len (l := l) (i := i + 1) (j := spn txt l (i + 1)) h6
          exact ⟨lt_subT hlt _ _, by simp only; omega, by simp only; omega, by simp only; omega, by simp only; omega⟩
      · rw [if_neg h3] at *
        by_cases h4 : at' l i = 61 ∧ i + 1 < l.length ∧ at' l (i + 1) = 61
        · rw [if_pos h4]
          exact ⟨Lt.cons (by omega) (Lt.one (by omega)), by simp, by simp only; omega, by simp only; omega, by simp only; omega⟩
        · rw [if_neg h4] at *
          by_cases h5 : sgn (at' l i) = true
          · rw [if_pos h5]
            exact ⟨Lt.one (lt_atT hlt i), by simp, by simp only; omega, by simp only; omega, by simp only; omega⟩
          · rw [if_neg h5] at he; simp at he
theorem lexF_ok {l : List Nat} (hlt : Lt l) (hll : l.length ≤ 16384) : ∀ (n i : Nat), i ≤ l.length → (lexF l n i).2.2 = 0 →
    (∃ t, (lexF l n i).1.getLast? = some t ∧ t.1 = 5 ∧ t.2.1 = []) ∧ (∀ t ∈ (lexF l n i).1, TokOk t) ∧ (lexF l n i).1.length ≤ l.length - i + 1
  | 0, i, _, he => by unfold lexF at he; simp at he
  | n + 1, i, hi, he => by
    unfold lexF at *
    by_cases hl : l.length ≤ i
    · rw [if_pos hl]
      refine ⟨⟨_, rfl, rfl, rfl⟩, fun t ht => ?_, by simp⟩
      obtain rfl : t = (5, [], 0, l.length) := by simpa using ht
      exact ⟨Lt.nil, by simp, by simp only; omega, by simp only; omega, by simp only; omega⟩
    · rw [if_neg hl] at *
      by_cases hb : LexN.blank (at' l i) = true
      · rw [if_pos hb] at *
        obtain ⟨h1, h2, h3⟩ := lexF_ok hlt hll n (i + 1) (by omega) he
        exact ⟨h1, h2, by omega⟩
      · rw [if_neg hb] at *
        by_cases hc : at' l i = 35
        · rw [if_pos hc] at *
          have := spn_line (by omega) hc
          obtain ⟨h1, h2, h3⟩ := lexF_ok hlt hll n _ this.2 he
          exact ⟨h1, h2, by omega⟩
        · rw [if_neg hc] at *
          by_cases hk : (tok l i).2.2 = 0
          · rw [if_pos hk] at *
            have hn := tok_next (by omega) hk
            by_cases hz : (lexF l n (tok l i).2.1).2.2 = 0
            · obtain ⟨⟨t, h1, h1'⟩, h2, h3⟩ := lexF_ok hlt hll n _ hn.2 hz
              have e : aheadL [(tok l i).1] (lexF l n (tok l i).2.1) = ([(tok l i).1] ++ (lexF l n (tok l i).2.1).1, (lexF l n (tok l i).2.1).2) := by unfold aheadL; rw [if_pos hz]
              rw [e]
              refine ⟨⟨t, ?_, h1'⟩, fun u hu => ?_, ?_⟩
              · rw [List.getLast?_append, h1]; rfl
              · rcases List.mem_append.1 hu with hu | hu
                · obtain rfl : u = (tok l i).1 := by simpa using hu
                  exact tok_ok hlt hll (by omega) hk
                · exact h2 u hu
              · simp only [List.length_append, List.length_cons, List.length_nil]; omega
            · have e : aheadL [(tok l i).1] (lexF l n (tok l i).2.1) = lexF l n (tok l i).2.1 := by unfold aheadL; rw [if_neg hz]
              rw [e] at he
              exact absurd he hz
          · rw [if_neg hk] at he
            exact absurd he hk
/-- The tokens of a text without an error. -/
theorem toks_ok {l : List Nat} (hlt : Lt l) (he : (toks l).2.2 = 0) : TsOk (toks l).1 := by
  unfold toks at *
  by_cases hl : 16384 < l.length
  · rw [if_pos hl] at he; simp at he
  · rw [if_neg hl] at *
    obtain ⟨h1, h2, h3⟩ := lexF_ok hlt (by omega) _ 0 (Nat.zero_le _) he
    exact ⟨h1, h2, by unfold lex; omega⟩
end By
end Go.Proofs.YtmflgfojicaecaaGreatDoor

/- The closure by which Parse ends at a mistake: entered as a deferred call of a frame that returns, and of one that panics. Condition: the results' variables lie in memory. -/
namespace Go.Proofs.YtmflgfojicaecaaGreatDoor
namespace By
open Go.RowKit WireN LexN SrcN
set_option linter.unusedVariables false
set_option linter.unusedSimpArgs false

set_option maxRecDepth 100000 in
theorem parse1_idle (rf ra re : Nat) (w : World) :
    CallsD Tryz.prog 49 #[.pointer (some ⟨rf, 0, none⟩), .pointer (some ⟨ra, 0, none⟩), .pointer (some ⟨re, 0, none⟩)] .returning w fun e u' w' => e = .returned (.tuple #[]) ∧ u' = .returning ∧ Kp w w' := by
  refine callsD_of_wpS Tryz.func49 rfl fun c₀ cs hu => ?_
  have hta : ∀ w, (Instr.typeAssert .nilIface 20 84 true).run Tryz.prog w = .ok (.tuple #[.agg #[.int .i64 0, .int .i64 0], .bool false]) w := fun w => by kernel_rfl
  apply wpS_seq
  apply wpS_region
  simp [wpOpsS, go_sem, recoverD, hu, Tryz.ntmps49, Exit.thenS, hta]
  apply wpS_seq
  apply wpS_region
  simp [wpOpsS, go_sem, Exit.thenS]
  refine wpS_cond (t := false) (by simp [Act.eval, Array.replicate]) ?_
  simp only [Bool.false_eq_true, if_false]
  refine wpS_of_wp (wp_skip ?_)
  have hk : Kp w (w.alloc (.cells #[.int .i64 0, .int .i64 0] 84)) := kp_alloc w _
  cases c₀
  simp_all [bodyPostS, results, Tryz.results49]
/-- What the closure leaves where it recovers. -/
structure Caught (rf ra re a e : Nat) (w w' : World) : Prop where
  os : w'.os = w.os
  tape : w'.tape = w.tape
  output : w'.output = w.output
  size : w.heap.size ≤ w'.heap.size
  block : ∀ b, b < w.heap.size → b ≠ rf → b ≠ ra → b ≠ re → w'.heap[b]? = w.heap[b]?
  f : Blk w' rf 29 #[.string ⟨#[]⟩, .slice none 0 0, .slice none 0 0]
  a : Blk w' ra 3 #[.int .i64 (a : Nat)]
  e : Blk w' re 31 #[.int .i64 (e : Nat)]
set_option maxRecDepth 100000 in
set_option maxHeartbeats 1000000 in
theorem parse1_pan (rf ra re a e : Nat) (older : List PanicEntry) (w : World) (h1 : rf ≠ ra) (h2 : rf ≠ re) (h3 : ra ≠ re) {x y z : Value} {i j : Int} (bf : Blk w rf 29 #[x, y, z]) (ba : Blk w ra 3 #[.int .i64 i]) (be : Blk w re 31 #[.int .i64 j]) :
    CallsD Tryz.prog 49 #[.pointer (some ⟨rf, 0, none⟩), .pointer (some ⟨ra, 0, none⟩), .pointer (some ⟨re, 0, none⟩)] (.panicking ({ v := .iface 84 (.agg #[.int .i64 (a : Nat), .int .i64 (e : Nat)]), recovered := false } :: older)) w fun en u' w' => en = .returned (.tuple #[]) ∧ u' = .panicking ({ v := .iface 84 (.agg #[.int .i64 (a : Nat), .int .i64 (e : Nat)]), recovered := true } :: older) ∧ Caught rf ra re a e w w' := by
  refine callsD_of_wpS Tryz.func49 rfl fun c₀ cs hu => ?_
  have hta : ∀ v w, (Instr.typeAssert (.iface 84 v) 20 84 true).run Tryz.prog w = .ok (.tuple #[v, .bool true]) w := fun v w => by kernel_rfl
  apply wpS_seq
  apply wpS_region
  simp [wpOpsS, go_sem, recoverD, hu, Tryz.ntmps49, Exit.thenS, hta]
  apply wpS_seq
  apply wpS_region
  simp [wpOpsS, go_sem, Exit.thenS]
  refine wpS_cond (t := true) (by simp [Act.eval, Array.replicate]) ?_
  simp only [if_true]
  refine wpS_of_wp ?_
  obtain ⟨W1, hW1⟩ : ∃ W, W = w.alloc (.cells #[.int .i64 (a : Nat), .int .i64 (e : Nat)] 84) := ⟨_, rfl⟩
  obtain ⟨mb, hmb⟩ : ∃ b, b = w.heap.size := ⟨_, rfl⟩
  have k1 : Kp w W1 := by rw [hW1]; exact kp_alloc w _
  have MB : Blk W1 mb 84 #[.int .i64 (a : Nat), .int .i64 (e : Nat)] := by rw [hW1, hmb]; exact Blk.new _ _ _
  have lf := bf.lt; have la := ba.lt; have le := be.lt
  have n1 : ¬ (mb = rf) := by omega
  have n2 : ¬ (mb = ra) := by omega
  have n3 : ¬ (mb = re) := by omega
  have m1 : ¬ (rf = mb) := by omega
  have m2 : ¬ (ra = mb) := by omega
  have m3 : ¬ (re = mb) := by omega
  have p1 : ¬ (rf = ra) := h1
  have p2 : ¬ (rf = re) := h2
  have p3 : ¬ (ra = re) := h3
  have q1 : ¬ (ra = rf) := fun e => h1 e.symm
  have q2 : ¬ (re = rf) := fun e => h2 e.symm
  have q3 : ¬ (re = ra) := fun e => h3 e.symm
  have b1 := bf.keep k1; have b2 := ba.keep k1; have b3 := be.keep k1
  have c0 := MB.cell 0 rfl; have c1 := MB.cell 1 rfl
  have f0 := b1.cell 0 rfl; have f1 := b1.cell 1 rfl; have f2 := b1.cell 2 rfl
  have g0 := b1.free 0; have g1 := b1.free 1; have g2 := b1.free 2
  have a0 := b2.cell 0 rfl; have a1 := b2.free 0
  have e0 := b3.cell 0 rfl; have e1 := b3.free 0
  have FIN : Hid (∀ W2, W2 = ((((W1.setCell ⟨rf, 0, none⟩ (.string ⟨#[]⟩)).setCell ⟨rf, 1, none⟩ (.slice none 0 0)).setCell ⟨rf, 2, none⟩ (.slice none 0 0)).setCell ⟨ra, 0, none⟩ (.int .i64 (a : Nat))).setCell ⟨re, 0, none⟩ (.int .i64 (e : Nat)) → Caught rf ra re a e w W2 ∧ Caught rf ra re a e w W2.drew) := Lib.hid (by
    intro W2 hW2
    obtain ⟨Wf, hWf⟩ : ∃ W, W = ((W1.setCell ⟨rf, 0, none⟩ (.string ⟨#[]⟩)).setCell ⟨rf, 1, none⟩ (.slice none 0 0)).setCell ⟨rf, 2, none⟩ (.slice none 0 0) := ⟨_, rfl⟩
    obtain ⟨Wg, hWg⟩ : ∃ W, W = Wf.setCell ⟨ra, 0, none⟩ (.int .i64 (a : Nat)) := ⟨_, rfl⟩
    rw [← hWf, ← hWg] at hW2
    have of : Only rf W1 Wf := by rw [hWf]; exact (((Only.refl _ _).set 0 _).set 1 _).set 2 _
    have og : Only ra Wf Wg := by rw [hWg]; exact (Only.refl _ _).set 0 _
    have oe : Only re Wg W2 := by rw [hW2]; exact (Only.refl _ _).set 0 _
    have bF : Blk Wf rf 29 #[.string ⟨#[]⟩, .slice none 0 0, .slice none 0 0] := by rw [hWf]; exact ((b1.set 0 _).set 1 _).set 2 _
    have bA : Blk Wg ra 3 #[.int .i64 (a : Nat)] := by rw [hWg]; exact (b2.other of q1).set 0 _
    have bE : Blk W2 re 31 #[.int .i64 (e : Nat)] := by rw [hW2]; exact ((b3.other of q2).other og q3).set 0 _
    have C : Caught rf ra re a e w W2 := by
     refine ⟨(oe.os.trans (og.os.trans of.os)).trans k1.os, (oe.tape.trans (og.tape.trans of.tape)).trans k1.tape, (oe.output.trans (og.output.trans of.output)).trans k1.output, ?_, fun b hb h1 h2 h3 => ?_, (bF.other og p1).other oe p2, bA.other oe p3, bE⟩
     · show w.heap.size ≤ W2.heap.size
       have := k1.size; have := of.size; have := og.size; have := oe.size
       omega
     · show W2.heap[b]? = _
       rw [oe.block b h3, og.block b h2, of.block b h1]
       exact k1.block b hb
    exact ⟨C, C.os, C.tape, C.output, C.size, C.block, C.f, C.a, C.e⟩)
  rw [← hW1, ← hmb]
  have hT : (#[Value.pointer (some ⟨rf, 0, none⟩), .pointer (some ⟨ra, 0, none⟩), .pointer (some ⟨re, 0, none⟩)] ++ ((((((((Array.replicate 13 undef).setIfInBounds 3 (.iface 84 (.agg #[.int .i64 (a : Nat), .int .i64 (e : Nat)]))).setIfInBounds 4 (.tuple #[.agg #[.int .i64 (a : Nat), .int .i64 (e : Nat)], .bool true])).setIfInBounds 2 (.tuple #[.agg #[.int .i64 (a : Nat), .int .i64 (e : Nat)], .bool true])).setIfInBounds 5 (.agg #[.int .i64 (a : Nat), .int .i64 (e : Nat)])).setIfInBounds 6 (.bool true)).setIfInBounds 0 (.pointer (some ⟨mb, 0, none⟩))).setIfInBounds 1 (.bool true)).setIfInBounds 7 (.bool true)) = #[Value.pointer (some ⟨rf, 0, none⟩), .pointer (some ⟨ra, 0, none⟩), .pointer (some ⟨re, 0, none⟩), .pointer (some ⟨mb, 0, none⟩), .bool true, (.tuple #[.agg #[.int .i64 (a : Nat), .int .i64 (e : Nat)], .bool true]), .iface 84 (.agg #[.int .i64 (a : Nat), .int .i64 (e : Nat)]), (.tuple #[.agg #[.int .i64 (a : Nat), .int .i64 (e : Nat)], .bool true]), (.agg #[.int .i64 (a : Nat), .int .i64 (e : Nat)]), .bool true, .bool true, undef, undef, undef, undef, undef] := by kernel_rfl
  rw [hT]
  clear hT
  clear hW1 hmb k1 MB lf la le h1 h2 h3 bf ba be b1 b2 b3 hta
  have HU := Lib.hid hu
  clear hu
  go_region
  exact ⟨rfl, _, rfl, _, results_none rfl _ _ _, rfl, rfl, (FIN.out _ rfl).2⟩
end By
end Go.Proofs.YtmflgfojicaecaaGreatDoor

/- Parse: what any text means as a source, or its first mistake. Conditions: the two package variables that the code reads lie in memory; the fuel of the plain grammar suffices. -/
namespace Go.Proofs.YtmflgfojicaecaaGreatDoor
namespace By
open Go.RowKit WireN LexN SrcN
set_option linter.unusedVariables false
set_option linter.unusedSimpArgs false

theorem SrcAt.turn {F F2 : Nat → Prop} {W W' : World} {f : Src} {iv dv : Value} {xs : List (Value × Value)} (h : SrcAt F W f iv dv xs) (hk : Keep (fun b => ¬ F b ∧ b < W.heap.size) W W') (hF : ∀ b, F2 b → F b) : SrcAt F2 W' f iv dv xs := by
  obtain ⟨D, h1, h2, h3, h4⟩ := h.ex
  refine ⟨⟨D, ⟨own_keep h1.own (fun b hb => hk.block b ⟨(h1.inF b hb).1, (h1.own.lt b hb).2⟩), fun b hb => ⟨fun hf => (h1.inF b hb).1 (hF b hf), (h1.inF b hb).2⟩, h1.few, h1.ok⟩, h2.kept hk (fun b hb => ⟨h3 b hb, h2.dom b hb⟩) (fun b hb => ⟨(h4 b hb).1, (h2.row.own.lt b hb).2⟩), fun b hb hf => h3 b hb (hF b hf), fun b hb => ⟨fun hf => (h4 b hb).1 (hF b hf), (h4 b hb).2⟩⟩, h.lt⟩
theorem SrcAt.zero (F : Nat → Prop) (W : World) : SrcAt F W Src.zero (.slice none 0 0) (.slice none 0 0) [] :=
  ⟨⟨fun _ => False, ⟨World.ownsRow_nil _ _ _ _, fun b hb => by simp [Value.ownBlock] at hb, by simp [Src.zero], fun n hn => by simp [Src.zero] at hn⟩, FR.nil W, fun b hb => hb.elim, fun b hb => by simp [Value.ownBlock] at hb⟩, by simp [Src.zero, Lt]⟩
theorem parse_res {W : World} {tmps : Array Value} {rf ra re : Nat} {T : ByteArray} {ao bo : Option Addr} {al ac bl bc A E : Nat} (h2 : tmps.getD 2 undef = .pointer (some ⟨rf, 0, none⟩)) (h3 : tmps.getD 3 undef = .pointer (some ⟨ra, 0, none⟩)) (h4 : tmps.getD 4 undef = .pointer (some ⟨re, 0, none⟩))
    (bf : Blk W rf 29 #[.string T, .slice ao al ac, .slice bo bl bc]) (ba : Blk W ra 3 #[.int .i64 (A : Nat)]) (be : Blk W re 31 #[.int .i64 (E : Nat)]) :
    (results Tryz.f18 tmps).run Tryz.prog W = .ok (.tuple #[.agg #[.string T, .slice ao al ac, .slice bo bl bc], .int .i64 (A : Nat), .int .i64 (E : Nat)]) W := by
  have h2' : tmps[2]?.getD undef = .pointer (some ⟨rf, 0, none⟩) := by simpa using h2
  have h3' : tmps[3]?.getD undef = .pointer (some ⟨ra, 0, none⟩) := by simpa using h3
  have h4' : tmps[4]?.getD undef = .pointer (some ⟨re, 0, none⟩) := by simpa using h4
  have f0 := bf.cell 0 rfl; have f1 := bf.cell 1 rfl; have f2 := bf.cell 2 rfl
  have a0 := ba.cell 0 rfl; have e0 := be.cell 0 rfl
  simp [results, Tryz.results18, go_sem, h2', h3', h4', f0, f1, f2, a0, e0]
/-- What Parse answers. -/
def AnsP (R : Src × Nat × Nat) (w : World) (e : Ending) (w' : World) : Prop :=
  ∃ (iv dv : Value) (xs : List (Value × Value)), e = .returned (.tuple #[.agg #[.string (st R.1.pk), iv, dv], .int .i64 (R.2.1 : Nat), .int .i64 (R.2.2 : Nat)]) ∧ SrcAt (fun b => b < w.heap.size) w' R.1 iv dv xs ∧ Kp w w'
set_option maxRecDepth 100000 in
set_option maxHeartbeats 8000000 in
theorem parse_st {l : List Nat} (hl : Lt l) {n : Nat} {w : World} (hG : Glob w) {R : Src × Nat × Nat} (hr : SrcN.parse n l = some R) :
    Calls Tryz.prog 18 #[.string (st l)] w (AnsP R w) := by
  obtain ⟨Q, hQ⟩ : ∃ Q, Q = AnsP R w := ⟨_, rfl⟩
  rw [← hQ]
  have HQ := Lib.hid hQ
  have hmf : ∀ (fn : Fn) (first cap : Array Value) (w : World), (Instr.makeFunc fn first cap).run Tryz.prog w = .ok (.func fn first cap) w := fun _ _ _ _ => rfl
  obtain ⟨rf, hrf⟩ : ∃ b, b = w.heap.size := ⟨_, rfl⟩
  obtain ⟨ra, hra⟩ : ∃ b, b = w.heap.size + 1 := ⟨_, rfl⟩
  obtain ⟨re, hre⟩ : ∃ b, b = w.heap.size + 2 := ⟨_, rfl⟩
  obtain ⟨Wa, hWa⟩ : ∃ W, W = w.alloc (.cells #[.string ⟨#[]⟩, .slice none 0 0, .slice none 0 0] 29) := ⟨_, rfl⟩
  obtain ⟨Wb, hWb⟩ : ∃ W, W = Wa.alloc (.cells #[.int .i64 0] 3) := ⟨_, rfl⟩
  obtain ⟨W0, hW0⟩ : ∃ W, W = Wb.alloc (.cells #[.int .i64 0] 31) := ⟨_, rfl⟩
  have za : Wa.heap.size = w.heap.size + 1 := by rw [hWa]; simp
  have zb : Wb.heap.size = w.heap.size + 2 := by rw [hWb]; simp; omega
  have ka : Kp w Wa := by rw [hWa]; exact kp_alloc _ _
  have kb : Kp Wa Wb := by rw [hWb]; exact kp_alloc _ _
  have kc : Kp Wb W0 := by rw [hW0]; exact kp_alloc _ _
  have K0 : Hid (Kp w W0) := Lib.hid (Kp.trans ka (Kp.trans kb kc))
  have BF0 : Hid (Blk W0 rf 29 #[.string ⟨#[]⟩, .slice none 0 0, .slice none 0 0]) := Lib.hid (by
    have h : Blk Wa w.heap.size 29 #[.string ⟨#[]⟩, .slice none 0 0, .slice none 0 0] := by rw [hWa]; exact Blk.new _ _ _
    rw [hrf]; exact (h.keep kb).keep kc)
  have BA0 : Hid (Blk W0 ra 3 #[.int .i64 0]) := Lib.hid (by
    have h : Blk Wb Wa.heap.size 3 #[.int .i64 0] := by rw [hWb]; exact Blk.new _ _ _
    rw [hra, ← za]; exact h.keep kc)
  have BE0 : Hid (Blk W0 re 31 #[.int .i64 0]) := Lib.hid (by rw [hre, ← zb, hW0]; exact Blk.new _ _ _)
  have HW0 : Hid (W0 = ((w.alloc (.cells #[.string ⟨#[]⟩, .slice none 0 0, .slice none 0 0] 29)).alloc (.cells #[.int .i64 0] 3)).alloc (.cells #[.int .i64 0] 31)) := Lib.hid (by rw [hW0, hWb, hWa])
  have ERF := Lib.hid hrf; have ERA := Lib.hid hra; have ERE := Lib.hid hre
  have HT : Hid (Calls Tryz.prog 48 #[.string (st l)] W0 (TokensR (toks l) W0)) := Lib.hid (Tokens_any hl W0)
  have HL := Lib.hid hl; have HG := Lib.hid hG; have HR := Lib.hid hr
  obtain ⟨S, hS⟩ : ∃ S, S = st l := ⟨_, rfl⟩
  rw [← hS] at HT ⊢
  clear hQ hrf hra hre hWa hWb hW0 za zb ka kb kc hl hG hr hS
  go_enter_defers Tryz.func18, Tryz.ntmps18
  go_wp2_with fail
  rw [← HW0.out, ← ERE.out, ← ERA.out, ← ERF.out]
  refine HT.out.mono ?_
  rintro e w1 ⟨v, wx, rfl, htr, hkx⟩
  have hk1 : Kp W0 w1 := Kp.trans hkx htr.kp
  obtain ⟨A, hA⟩ : ∃ A, A = (toks l).2.1 := ⟨_, rfl⟩
  obtain ⟨E, hE⟩ : ∃ E, E = (toks l).2.2 := ⟨_, rfl⟩
  obtain ⟨ts, hts⟩ : ∃ ts, ts = (toks l).1 := ⟨_, rfl⟩
  rw [← hA, ← hE]
  rw [← hts] at htr
  obtain ⟨tok0, tc, hv, htc⟩ := htr.form
  obtain ⟨tl, htl⟩ : ∃ tl, tl = ts.length := ⟨_, rfl⟩
  rw [← htl] at hv htc
  subst hv
  obtain ⟨Wc, hWc⟩ : ∃ W, W = w1.setCell ⟨ra, 0, none⟩ (.int .i64 (A : Nat)) := ⟨_, rfl⟩
  obtain ⟨W2, hW2⟩ : ∃ W, W = Wc.setCell ⟨re, 0, none⟩ (.int .i64 (E : Nat)) := ⟨_, rfl⟩
  have nae : ra ≠ re := by have h1 := ERA.out; have h2 := ERE.out; omega
  have nfa : rf ≠ ra := by have h1 := ERF.out; have h2 := ERA.out; omega
  have nfe : rf ≠ re := by have h1 := ERF.out; have h2 := ERE.out; omega
  have NE := Lib.hid (And.intro nfa (And.intro nfe nae))
  have oa : Only ra w1 Wc := by rw [hWc]; exact (Only.refl _ _).set 0 _
  have oe : Only re Wc W2 := by rw [hW2]; exact (Only.refl _ _).set 0 _
  have bf1 := BF0.out.keep hk1; have ba1 := BA0.out.keep hk1; have be1 := BE0.out.keep hk1
  have BF2 : Hid (Blk W2 rf 29 #[.string ⟨#[]⟩, .slice none 0 0, .slice none 0 0]) := Lib.hid ((bf1.other oa nfa).other oe nfe)
  have BA2 : Hid (Blk W2 ra 3 #[.int .i64 (A : Nat)]) := Lib.hid (by
    have h : Blk Wc ra 3 #[.int .i64 (A : Nat)] := by rw [hWc]; exact ba1.set 0 _
    exact h.other oe nae)
  have BE2 : Hid (Blk W2 re 31 #[.int .i64 (E : Nat)]) := Lib.hid (by rw [hW2]; exact (be1.other oa (fun e => nae e.symm)).set 0 _)
  have K2 : Hid (Kp w W2) := Lib.hid (Only.kp (Only.kp (Kp.trans K0.out hk1) oa (by have := ERA.out; omega)) oe (by have := ERE.out; omega))
  have OAE : Hid (∀ b, b ≠ ra → b ≠ re → W2.heap[b]? = w1.heap[b]?) := Lib.hid (fun b h1 h2 => (oe.block b h2).trans (oa.block b h1))
  have Z2 : Hid (W2.heap.size = w1.heap.size) := Lib.hid (by have := oa.size; have := oe.size; omega)
  have HTR := Lib.hid htr; have HKX := Lib.hid hkx; have HEE := Lib.hid hE; have HAA := Lib.hid hA; have HTS := Lib.hid hts; have HTL := Lib.hid htl; have HTC := Lib.hid htc
  have HW2 : Hid (W2 = (w1.setCell ⟨ra, 0, none⟩ (.int .i64 (A : Nat))).setCell ⟨re, 0, none⟩ (.int .i64 (E : Nat))) := Lib.hid (by rw [hW2, hWc])
  have a0 := ba1.cell 0 rfl; have a1 := ba1.free 0; have e0 := be1.cell 0 rfl; have e1 := be1.free 0
  have x0 := BE2.out.cell 0 rfl
  rw [hW2, hWc] at x0
  have p1 : ¬ (ra = re) := nae
  have p2 : ¬ (re = ra) := fun e => nae e.symm
  clear hk1 hkx htr hA hE hts htl hWc hW2 oa oe bf1 ba1 be1 nae nfa nfe htc
  by_cases hE0 : E = 0
  · subst hE0
    have HR2 := HR.out
    unfold SrcN.parse at HR2
    rw [if_pos HEE.out.symm, ← HTS.out] at HR2
    have TOK : TsOk ts := by rw [HTS.out]; exact toks_ok HL.out HEE.out.symm
    obtain ⟨t1, tr, htc1⟩ := TOK.cons
    obtain ⟨g, cap, hgv, hgc, hg0, hg1, hgcell⟩ := HTR.out.cell (by rw [htc1]; simp)
    rw [← HTL.out] at hgv
    simp only [Value.slice.injEq] at hgv
    obtain ⟨rfl, -, rfl⟩ := hgv
    obtain ⟨p, hp⟩ : ∃ p, p = w1.heap.size := ⟨_, rfl⟩
    obtain ⟨W3, hW3⟩ : ∃ W, W = W2.alloc (.cells #[.slice (some ⟨g, 0, none⟩) tl tc, .slice none 0 0, .slice none 0 0] 87) := ⟨_, rfl⟩
    have k3 : Kp W2 W3 := by rw [hW3]; exact kp_alloc _ _
    have z3 : W3.heap.size = W2.heap.size + 1 := by rw [hW3]; simp
    have PB3 : Blk W3 p 87 #[.slice (some ⟨g, 0, none⟩) tl tc, .slice none 0 0, .slice none 0 0] := by rw [hW3, hp, ← Z2.out]; exact Blk.new _ _ _
    have ngr : g ≠ ra ∧ g ≠ re := by
      have h1 := BA0.out.lt; have h2 := BE0.out.lt; have h3 := HKX.out.size
      exact ⟨by omega, by omega⟩
    have GL3 : Glob W3 := by
      have k := Kp.trans K2.out k3
      obtain ⟨m, hm⟩ := HG.out.mx
      exact ⟨⟨m, cell_kept hm k⟩, fun i v hv => cell_kept (HG.out.op i v hv) k⟩
    have bsl : ∀ b, Bs g b → b < W2.heap.size := by
      intro b hb
      have hw := K2.out.size
      rcases hb with rfl | rfl | rfl
      · rw [Z2.out]; exact hg1
      · obtain ⟨m, hm⟩ := HG.out.mx
        have := World.block_lt_of_cell? w _ hm
        simp only at this
        omega
      · have := World.block_lt_of_cell? w _ (HG.out.op 0 _ rfl)
        simp only at this
        omega
    have PM3 : PI (fun b => b < W2.heap.size) g p W3 ⟨ts, [], [], false⟩ := by
      refine ⟨0, tc, .slice none 0 0, .slice none 0 0, [], ?_⟩
      exact {
        dom := fun k hk => by omega
        tok := bsl
        glob := GL3
        own := by rw [hp, ← Z2.out]; omega
        blk := by rw [← HTL.out, Nat.zero_mul]; exact PB3
        toks := fun i t ht j u hu => by
          have h := hgcell i t ht j u hu
          have hb1 : W3.heap[g]? = w1.heap[g]? := (k3.block g (by rw [Z2.out]; exact hg1)).trans (OAE.out g ngr.1 ngr.2)
          rw [Nat.zero_add]
          exact (World.cell?_of_block hb1).trans h
        good := TOK
        cap := by
          rw [← HTL.out]
          refine ⟨HTC.out, ?_⟩
          rcases HTR.out.own.2 with ⟨e, _⟩ | ⟨g', cap', cur, e, hb, hg, hnc, hcm, _⟩
          · simp at e
          · simp only [Value.slice.injEq] at e
            rw [e.2.2]
            exact hcm
        pown := fun h => nomatch h
        pfew := fun h => nomatch h
        plt := fun h => nomatch h
        poff := fun h => nomatch h
        bown := fun h => nomatch h
        bfew := fun h => nomatch h
        boff := fun h => nomatch h
        vlen := fun h => nomatch h
        args := fun h => nomatch h }
    have HPM := Lib.hid PM3; have HW3 := Lib.hid hW3; have HPP := Lib.hid hp
    have BF3 := Lib.hid (BF2.out.keep k3); have BA3 := Lib.hid (BA2.out.keep k3); have BE3 := Lib.hid (BE2.out.keep k3)
    have K3 := Lib.hid (Kp.trans K2.out k3)
    have IN3 : Hid (rf < W2.heap.size ∧ ra < W2.heap.size ∧ re < W2.heap.size ∧ w.heap.size ≤ W2.heap.size) := Lib.hid ⟨BF2.out.lt, BA2.out.lt, BE2.out.lt, K2.out.size⟩
    unfold SrcN.parseT at HR2
    cases hfile : file n ⟨ts, [], [], false⟩ with
    | none => rw [hfile] at HR2; cases HR2
    | some o =>
    rw [hfile] at HR2
    have CF := Lib.hid (file_st HPM.out hfile)
    clear TOK htc1 hgc hg0 hg1 hgcell hp hW3 k3 z3 PB3 ngr GL3 bsl PM3 hfile t1 tr
    go_wp2_with fail
    have HW20 : W2 = (w1.setCell ⟨ra, 0, none⟩ (.int .i64 (A : Nat))).setCell ⟨re, 0, none⟩ (.int .i64 0) := HW2.out
    rw [← HW20, ← HPP.out, ← HW3.out]
    clear a0 a1 e0 e1 x0 HW20
    refine CF.out.mono ?_
    intro e w4 hans
    cases o with
    | ok f s' =>
      obtain ⟨iv, dv, xs, rfl, hsrc, hke⟩ := hans
      have HSRC := Lib.hid hsrc; have HKE := Lib.hid hke
      have bf4 := BF3.out.kept hke IN3.out.1; have ba4 := BA3.out.kept hke IN3.out.2.1; have be4 := BE3.out.kept hke IN3.out.2.2.1
      have f0 := bf4.cell 0 rfl; have f1 := bf4.cell 1 rfl; have f2 := bf4.cell 2 rfl
      have g0 := bf4.free 0; have g1 := bf4.free 1; have g2 := bf4.free 2
      have a0 := ba4.cell 0 rfl; have a1 := ba4.free 0
      have e0 := be4.cell 0 rfl; have e1 := be4.free 0
      have m1 : ¬ (rf = ra) := NE.out.1
      have m2 : ¬ (rf = re) := NE.out.2.1
      have m3 : ¬ (ra = rf) := fun e => NE.out.1 e.symm
      have m4 : ¬ (re = rf) := fun e => NE.out.2.1 e.symm
      obtain ⟨D, hs1, hs2, -, -⟩ := hsrc.ex
      obtain ⟨io, ic, hiv⟩ := row_open hs1.own
      obtain ⟨do', dc, hdv⟩ := row_open hs2.row.own
      obtain ⟨il, hil⟩ : ∃ x, x = f.im.length := ⟨_, rfl⟩
      obtain ⟨dl, hdl⟩ : ∃ x, x = f.dc.length := ⟨_, rfl⟩
      rw [← hil] at hiv
      rw [← hdl] at hdv
      subst hiv hdv
      obtain ⟨PS, hPS⟩ : ∃ x, x = st f.pk := ⟨_, rfl⟩
      rw [← hPS]
      have HPS := Lib.hid hPS
      have HRR : Hid (R = (f, 0, 0)) := Lib.hid (Option.some.inj HR2).symm
      have FIN : Hid (∀ V, V = ((((w4.setCell ⟨rf, 0, none⟩ (.string PS)).setCell ⟨rf, 1, none⟩ (.slice io il ic)).setCell ⟨rf, 2, none⟩ (.slice do' dl dc)).setCell ⟨ra, 0, none⟩ (.int .i64 0)).setCell ⟨re, 0, none⟩ (.int .i64 0) →
          Blk V rf 29 #[.string PS, .slice io il ic, .slice do' dl dc] ∧ Blk V ra 3 #[.int .i64 ((0 : Nat) : Int)] ∧ Blk V re 31 #[.int .i64 ((0 : Nat) : Int)] ∧ Kp w V ∧ SrcAt (fun b => b < w.heap.size) V f (.slice io il ic) (.slice do' dl dc) xs) := Lib.hid (by
        intro V hV
        obtain ⟨Vf, hVf⟩ : ∃ W, W = ((w4.setCell ⟨rf, 0, none⟩ (.string PS)).setCell ⟨rf, 1, none⟩ (.slice io il ic)).setCell ⟨rf, 2, none⟩ (.slice do' dl dc) := ⟨_, rfl⟩
        obtain ⟨Vg, hVg⟩ : ∃ W, W = Vf.setCell ⟨ra, 0, none⟩ (.int .i64 0) := ⟨_, rfl⟩
        rw [← hVf, ← hVg] at hV
        have of : Only rf w4 Vf := by rw [hVf]; exact (((Only.refl _ _).set 0 _).set 1 _).set 2 _
        have og : Only ra Vf Vg := by rw [hVg]; exact (Only.refl _ _).set 0 _
        have oe : Only re Vg V := by rw [hV]; exact (Only.refl _ _).set 0 _
        have bF : Blk Vf rf 29 #[.string PS, .slice io il ic, .slice do' dl dc] := by rw [hVf]; exact ((bf4.set 0 _).set 1 _).set 2 _
        have bA : Blk Vg ra 3 #[.int .i64 0] := by rw [hVg]; exact (ba4.other of m3).set 0 _
        have bE : Blk V re 31 #[.int .i64 0] := by rw [hV]; exact ((be4.other of m4).other og p2).set 0 _
        have k4 : Kp w w4 := HKE.out.kp K3.out (fun k hk => Nat.lt_of_lt_of_le hk IN3.out.2.2.2)
        have kv : Keep (fun b => ¬ b < W2.heap.size ∧ b < w4.heap.size) w4 V := ⟨oe.os.trans (og.os.trans of.os), oe.tape.trans (og.tape.trans of.tape), oe.output.trans (og.output.trans of.output), by have := of.size; have := og.size; have := oe.size; omega, fun b hb => by
          have h1 := IN3.out
          rw [oe.block b (by omega), og.block b (by omega), of.block b (by omega)]⟩
        exact ⟨(bF.other og m1).other oe m2, bA.other oe p1, bE, Only.kp (Only.kp (Only.kp k4 of (by have := ERF.out; omega)) og (by have := ERA.out; omega)) oe (by have := ERE.out; omega), HSRC.out.turn kv (fun b hb => Nat.lt_of_lt_of_le hb IN3.out.2.2.2)⟩)
      clear hsrc hke bf4 ba4 be4 hs1 hs2 hil hdl hPS HR2
      go_wp2_with fail
      obtain ⟨V, hV⟩ : ∃ V, V = ((((w4.setCell ⟨rf, 0, none⟩ (.string PS)).setCell ⟨rf, 1, none⟩ (.slice io il ic)).setCell ⟨rf, 2, none⟩ (.slice do' dl dc)).setCell ⟨ra, 0, none⟩ (.int .i64 0)).setCell ⟨re, 0, none⟩ (.int .i64 0) := ⟨_, rfl⟩
      rw [← hV]
      obtain ⟨v1, v2, v3, v4, v5⟩ := FIN.out V hV
      refine leaves_cons (f := 49) (args := #[.pointer (some ⟨rf, 0, none⟩), .pointer (some ⟨ra, 0, none⟩), .pointer (some ⟨re, 0, none⟩)]) (by simp) (by simp [go_sem]) ?_
      refine (parse1_idle rf ra re V).mono ?_
      rintro en u' w5 ⟨rfl, rfl, hk5⟩
      refine ⟨_, parse_res (W := w5) rfl rfl rfl (v1.keep hk5) (v2.keep hk5) (v3.keep hk5), ?_⟩
      rw [HQ.out, HRR.out]
      exact ⟨_, _, xs, by rw [HPS.out], v5.turn ⟨hk5.os, hk5.tape, hk5.output, hk5.size, fun b hb => hk5.block b hb.2⟩ (fun b hb => hb), Kp.trans v4 hk5⟩
    | bad a e' =>
      obtain ⟨rfl, hke⟩ := hans
      have HKE := Lib.hid hke
      have bf4 := BF3.out.kept hke IN3.out.1; have ba4 := BA3.out.kept hke IN3.out.2.1; have be4 := BE3.out.kept hke IN3.out.2.2.1
      have HRR : Hid (R = (Src.zero, a, e')) := Lib.hid (Option.some.inj HR2).symm
      have k4 : Kp w w4 := HKE.out.kp K3.out (fun k hk => Nat.lt_of_lt_of_le hk IN3.out.2.2.2)
      refine leaves_cons (f := 49) (args := #[.pointer (some ⟨rf, 0, none⟩), .pointer (some ⟨ra, 0, none⟩), .pointer (some ⟨re, 0, none⟩)]) (by simp) (by simp [go_sem]) ?_
      refine (parse1_pan rf ra re a e' [] w4 NE.out.1 NE.out.2.1 NE.out.2.2 bf4 ba4 be4).mono ?_
      rintro en u' w5 ⟨rfl, rfl, hc⟩
      refine ⟨_, parse_res (W := w5) rfl rfl rfl hc.f hc.a hc.e, ?_⟩
      rw [HQ.out, HRR.out]
      refine ⟨_, _, [], rfl, SrcAt.zero _ _, ?_⟩
      refine Below.trans k4 ⟨hc.os, hc.tape, hc.output, hc.size, fun b hb => hc.block b (Nat.lt_of_lt_of_le hb k4.size) (by have := ERF.out; omega) (by have := ERA.out; omega) (by have := ERE.out; omega)⟩
  · have q0 : ((E : Int) == 0) = false := beq_eq_false_iff_ne.2 (by omega)
    have f0 := BF2.out.cell 0 rfl; have f1 := BF2.out.cell 1 rfl; have f2 := BF2.out.cell 2 rfl
    have g0 := BF2.out.free 0; have g1 := BF2.out.free 1; have g2 := BF2.out.free 2
    have m1 : ¬ (rf = ra) := NE.out.1
    have m2 : ¬ (rf = re) := NE.out.2.1
    have m3 : ¬ (ra = rf) := fun e => NE.out.1 e.symm
    have m4 : ¬ (re = rf) := fun e => NE.out.2.1 e.symm
    go_wp2_with fail
    rw [← HW2.out]
    clear a0 a1 e0 e1 x0
    have a0 := BA2.out.cell 0 rfl; have a1 := BA2.out.free 0
    have e0 := BE2.out.cell 0 rfl; have e1 := BE2.out.free 0
    have FIN : Hid (∀ V, V = ((((W2.setCell ⟨rf, 0, none⟩ (.string ⟨#[]⟩)).setCell ⟨rf, 1, none⟩ (.slice none 0 0)).setCell ⟨rf, 2, none⟩ (.slice none 0 0)).setCell ⟨ra, 0, none⟩ (.int .i64 (A : Nat))).setCell ⟨re, 0, none⟩ (.int .i64 (E : Nat)) →
        Blk V rf 29 #[.string ⟨#[]⟩, .slice none 0 0, .slice none 0 0] ∧ Blk V ra 3 #[.int .i64 (A : Nat)] ∧ Blk V re 31 #[.int .i64 (E : Nat)] ∧ Kp w V) := Lib.hid (by
      intro V hV
      obtain ⟨Vf, hVf⟩ : ∃ W, W = ((W2.setCell ⟨rf, 0, none⟩ (.string ⟨#[]⟩)).setCell ⟨rf, 1, none⟩ (.slice none 0 0)).setCell ⟨rf, 2, none⟩ (.slice none 0 0) := ⟨_, rfl⟩
      obtain ⟨Vg, hVg⟩ : ∃ W, W = Vf.setCell ⟨ra, 0, none⟩ (.int .i64 (A : Nat)) := ⟨_, rfl⟩
      rw [← hVf, ← hVg] at hV
      have of : Only rf W2 Vf := by rw [hVf]; exact (((Only.refl _ _).set 0 _).set 1 _).set 2 _
      have og : Only ra Vf Vg := by rw [hVg]; exact (Only.refl _ _).set 0 _
      have oe : Only re Vg V := by rw [hV]; exact (Only.refl _ _).set 0 _
      have bF : Blk Vf rf 29 #[.string ⟨#[]⟩, .slice none 0 0, .slice none 0 0] := by rw [hVf]; exact ((BF2.out.set 0 _).set 1 _).set 2 _
      have bA : Blk Vg ra 3 #[.int .i64 (A : Nat)] := by rw [hVg]; exact (BA2.out.other of m3).set 0 _
      have bE : Blk V re 31 #[.int .i64 (E : Nat)] := by rw [hV]; exact ((BE2.out.other of m4).other og p2).set 0 _
      exact ⟨(bF.other og m1).other oe m2, bA.other oe p1, bE, Only.kp (Only.kp (Only.kp K2.out of (by have := ERF.out; omega)) og (by have := ERA.out; omega)) oe (by have := ERE.out; omega)⟩)
    have HRR : Hid (R = (Src.zero, A, E)) := Lib.hid (by
      have h := HR.out
      unfold SrcN.parse at h
      rw [if_neg (by rw [← HEE.out]; exact hE0), ← HAA.out, ← HEE.out] at h
      exact (Option.some.inj h).symm)
    go_region
    all_goals
      go_wp2_with fail
      obtain ⟨V, hV⟩ : ∃ V, V = ((((W2.setCell ⟨rf, 0, none⟩ (.string ⟨#[]⟩)).setCell ⟨rf, 1, none⟩ (.slice none 0 0)).setCell ⟨rf, 2, none⟩ (.slice none 0 0)).setCell ⟨ra, 0, none⟩ (.int .i64 (A : Nat))).setCell ⟨re, 0, none⟩ (.int .i64 (E : Nat)) := ⟨_, rfl⟩
      rw [← hV]
      obtain ⟨v1, v2, v3, v4⟩ := FIN.out V hV
      refine ⟨_, parse_res (W := V.drew) rfl rfl rfl v1 v2 v3, ?_⟩
      rw [HQ.out, HRR.out]
      exact ⟨_, _, [], rfl, SrcAt.zero _ _, Kp.trans v4 (kp_drew V)⟩
end By
end Go.Proofs.YtmflgfojicaecaaGreatDoor
