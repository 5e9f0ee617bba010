/- The small parts of the parser: fail, room, is, accept, expect, take. Condition: the parser lies in memory as it is named. -/
import Derived.Test.YtmflgfojicaecaaGreatDoorSMem
namespace Go.Proofs.YtmflgfojicaecaaGreatDoor
namespace By
open Go.RowKit WireN LexN SrcN
set_option linter.unusedVariables false
set_option linter.unusedSimpArgs false

set_option maxRecDepth 100000 in
theorem fail_any (K NM AT : Nat) (T : ByteArray) (e : Nat) (W : World) :
    Calls Tryz.prog 124 #[.agg #[.int .i64 (K : Nat), .string T, .int .i64 (NM : Nat), .int .i64 (AT : Nat)], .int .i64 (e : Nat)] W fun en W' => en = pan AT e ∧ Kp W W' := by
  obtain ⟨W1, hW1⟩ : ∃ W1, W1 = W.alloc (Obj.cells #[.int .i64 (K : Nat), .string T, .int .i64 (NM : Nat), .int .i64 (AT : Nat)] 111) := ⟨_, rfl⟩
  have hb : Blk W1 W.heap.size 111 #[.int .i64 (K : Nat), .string T, .int .i64 (NM : Nat), .int .i64 (AT : Nat)] := by rw [hW1]; exact Blk.new _ _ _
  have HK : Hid (Kp W W1) := by show Kp W W1; rw [hW1]; exact kp_alloc W _
  have HW := Lib.hid hW1
  have c0 := hb.cell 0 rfl; have c1 := hb.cell 1 rfl; have c2 := hb.cell 2 rfl; have c3 := hb.cell 3 rfl
  rw [hW1] at c0 c1 c2 c3
  clear hW1 hb
  go_enter Tryz.func124, Tryz.ntmps124
  go_wp2_with fail
  rw [← HW.out]
  exact ⟨rfl, rfl, HK.out⟩
set_option maxRecDepth 100000 in
theorem room_no (K NM AT : Nat) (T : ByteArray) (n m : Int) (h : m ≤ n) (W : World) :
    Calls Tryz.prog 126 #[.agg #[.int .i64 (K : Nat), .string T, .int .i64 (NM : Nat), .int .i64 (AT : Nat)], .int .i64 n, .int .i64 m] W fun en W' => en = pan AT 2 ∧ Kp W W' := by
  obtain ⟨W1, hW1⟩ : ∃ W1, W1 = W.alloc (Obj.cells #[.int .i64 (K : Nat), .string T, .int .i64 (NM : Nat), .int .i64 (AT : Nat)] 111) := ⟨_, rfl⟩
  have hb : Blk W1 W.heap.size 111 #[.int .i64 (K : Nat), .string T, .int .i64 (NM : Nat), .int .i64 (AT : Nat)] := by rw [hW1]; exact Blk.new _ _ _
  have HK : Hid (Kp W W1) := by show Kp W W1; rw [hW1]; exact kp_alloc W _
  have HW := Lib.hid hW1
  have c0 := hb.cell 0 rfl; have c1 := hb.cell 1 rfl; have c2 := hb.cell 2 rfl; have c3 := hb.cell 3 rfl
  rw [hW1] at c0 c1 c2 c3
  clear hW1 hb
  go_enter Tryz.func126, Tryz.ntmps126
  go_wp2_with fail
  rw [← HW.out]
  clear c0 c1 c2 c3
  refine (fail_any K NM AT T 2 W1).mono ?_
  rintro e W2 ⟨rfl, hk⟩
  exact ⟨rfl, rfl, Kp.trans HK.out hk⟩
set_option maxRecDepth 100000 in
theorem room_yes (K NM AT : Nat) (T : ByteArray) (n m : Int) (h : n < m) (W : World) :
    Calls Tryz.prog 126 #[.agg #[.int .i64 (K : Nat), .string T, .int .i64 (NM : Nat), .int .i64 (AT : Nat)], .int .i64 n, .int .i64 m] W fun en W' => en = .returned (.tuple #[]) ∧ Kp W W' := by
  have HK : Hid (∀ o, Kp W (W.alloc o)) := fun o => kp_alloc W o
  go_enter Tryz.func126, Tryz.ntmps126
  go_wp2_with fail
  exact ⟨rfl, _, results_none rfl _ _ _, rfl, HK.out _⟩
/-- What the parser's block and the next token hold. -/
structure PC (p g o len rc : Nat) (pv bv : Value) (K NM AT : Nat) (T : ByteArray) (W : World) : Prop where
  c0 : W.cell? ⟨p, 0, none⟩ = some (.slice (some ⟨g, o * 4, none⟩) len rc)
  c1 : W.cell? ⟨p, 1, none⟩ = some pv
  c2 : W.cell? ⟨p, 2, none⟩ = some bv
  f0 : W.frozen? ⟨p, 0, none⟩ = false
  t0 : W.cell? ⟨g, o * 4, none⟩ = some (.int .i64 (K : Nat))
  t1 : W.cell? ⟨g, o * 4 + 1, none⟩ = some (.string T)
  t2 : W.cell? ⟨g, o * 4 + 2, none⟩ = some (.int .i64 (NM : Nat))
  t3 : W.cell? ⟨g, o * 4 + 3, none⟩ = some (.int .i64 (AT : Nat))
  pos : 0 < len
  lt : len ≤ rc ∧ rc ≤ maxLen
theorem PM.pc {F : Nat → Prop} {g p : Nat} {W : World} {s : St} {o rc : Nat} {pv bv : Value} {vs : List Value} {K NM AT : Nat} {T : List Nat} {r : List Tok} (h : PM F g p W s o rc pv bv vs) (hs : s.ts = (K, T, NM, AT) :: r) : PC p g o s.ts.length rc pv bv K NM AT (st T) W := by
  have ht := h.toks 0 (K, T, NM, AT) (by rw [hs]; rfl)
  exact ⟨h.blk.cell 0 rfl, h.blk.cell 1 rfl, h.blk.cell 2 rfl, h.blk.free 0, ht 0 _ rfl, ht 1 _ rfl, ht 2 _ rfl, ht 3 _ rfl, by rw [hs]; simp, h.cap⟩
theorem PC.kp {p g o len rc : Nat} {pv bv : Value} {K NM AT : Nat} {T : ByteArray} {W W' : World} (h : PC p g o len rc pv bv K NM AT T W) (hk : Kp W W') : PC p g o len rc pv bv K NM AT T W' := by
  have k : ∀ {a : Addr} {v : Value}, W.cell? a = some v → W'.cell? a = some v := fun {a v} hc => (hk.cell (World.block_lt_of_cell? W a hc)).trans hc
  refine ⟨k h.c0, k h.c1, k h.c2, ?_, k h.t0, k h.t1, k h.t2, k h.t3, h.pos, h.lt⟩
  exact (World.frozen?_of_block (hk.block p (World.block_lt_of_cell? W _ h.c0))).trans h.f0
theorem st_eqb {xs ys : List Nat} (hx : Lt xs) (hy : Lt ys) : ((st xs).toList == (st ys).toList) = (xs == ys) := by
  rw [Bool.eq_iff_iff, beq_iff_eq, beq_iff_eq]
  constructor
  · intro h
    rw [ByteArray.toList_eq, ByteArray.toList_eq] at h
    have h2 : bs (st xs) = bs (st ys) := by unfold bs; rw [h]
    rwa [bs_st hx, bs_st hy] at h2
  · rintro rfl; rfl
/-- Whether a token is a word or sign. -/
def hitB (K : Nat) (T X : ByteArray) : Bool := ((K : Nat) : Int) != 3 && T.toList == X.toList
theorem hitB_eq {K : Nat} {T X : List Nat} (hT : Lt T) (hX : Lt X) : hitB K (st T) (st X) = (K != 3 && T == X) := by
  unfold hitB
  rw [st_eqb hT hX]
  congr 1
  rw [Bool.eq_iff_iff, bne_iff_ne, bne_iff_ne]
  omega
set_option maxRecDepth 100000 in
theorem is_any {p g o len rc : Nat} {pv bv : Value} {K NM AT : Nat} {T : ByteArray} {W : World} (h : PC p g o len rc pv bv K NM AT T W) (X : ByteArray) :
    Calls Tryz.prog 90 #[.pointer (some ⟨p, 0, none⟩), .string X] W fun e W' => e = .returned (.bool (hitB K T X)) ∧ Kp W W' := by
  have HK : Hid (∀ o, Kp W (W.alloc o)) := fun o => kp_alloc W o
  obtain ⟨c0, c1, c2, f0, t0, t1, t2, t3, hp, hl⟩ := h
  have hr : (len : Int) ≠ 0 := by omega
  by_cases hK : K = 3
  · subst hK
    go_enter Tryz.func90, Tryz.ntmps90
    go_wp2_with fail
    go_ret
    exact ⟨rfl, HK.out _⟩
  · go_enter Tryz.func90, Tryz.ntmps90
    go_wp2_with fail
    go_ret
    exact ⟨rfl, HK.out _⟩
set_option maxRecDepth 100000 in
theorem accept_no {p g o len rc : Nat} {pv bv : Value} {K NM AT : Nat} {T : ByteArray} {W : World} (h : PC p g o len rc pv bv K NM AT T W) (X : ByteArray) (hb : hitB K T X = false) :
    Calls Tryz.prog 123 #[.pointer (some ⟨p, 0, none⟩), .string X] W fun e W' => e = .returned (.bool false) ∧ Kp W W' := by
  have H := Lib.hid h; have HB := Lib.hid hb
  clear h hb
  go_enter Tryz.func123, Tryz.ntmps123
  go_wp2_with fail
  refine (is_any H.out X).mono ?_
  rintro e W1 ⟨rfl, hk⟩
  rw [HB.out]
  have HK := Lib.hid hk
  clear hk
  go_wp2_with fail
  go_ret
  exact ⟨rfl, HK.out⟩
/-- A word or sign was read. -/
structure AccR (p g o len rc : Nat) (v : Value) (W : World) (e : Ending) (W' : World) : Prop where
  e : e = .returned v
  ex : ∃ W1, Kp W W1 ∧ W' = W1.setCell ⟨p, 0, none⟩ (.slice (some ⟨g, (o + 1) * 4, none⟩) (len - 1) (rc - 1))
set_option maxRecDepth 100000 in
theorem accept_yes {p g o len rc : Nat} {pv bv : Value} {K NM AT : Nat} {T : ByteArray} {W : World} (h : PC p g o len rc pv bv K NM AT T W) (X : ByteArray) (hb : hitB K T X = true) (h2 : 2 ≤ len) :
    Calls Tryz.prog 123 #[.pointer (some ⟨p, 0, none⟩), .string X] W (AccR p g o len rc (.bool true) W) := by
  have H := Lib.hid h; have HB := Lib.hid hb
  clear h hb
  go_enter Tryz.func123, Tryz.ntmps123
  go_wp2_with fail
  refine (is_any H.out X).mono ?_
  rintro e W1 ⟨rfl, hk⟩
  rw [HB.out]
  have FIN : Hid (AccR p g o len rc (.bool true) W (.returned (.bool true)) (W1.setCell ⟨p, 0, none⟩ (.slice (some ⟨g, o * 4 + 4, none⟩) (len - 1) (rc - 1)))) :=
    ⟨rfl, W1, hk, by rw [Nat.succ_mul]⟩
  obtain ⟨c0, c1, c2, f0, t0, t1, t2, t3, hp, hl⟩ := H.out.kp hk
  clear hk
  have hl1 := hl.1; have hl2 := hl.2
  have hrc : ¬ rc = 1 := by omega
  clear hl
  go_wp2_with fail
  go_ret
  exact FIN.out
/-- Nothing has changed, or the token is read: at states. -/
structure StR (F : Nat → Prop) (g p : Nat) (v : Value) (s : St) (W : World) (e : Ending) (W' : World) : Prop where
  e : e = .returned v
  pi : PI F g p W' s
  kp : Keep F W W'
theorem PI.cons {F : Nat → Prop} {g p : Nat} {W : World} {s : St} (h : PI F g p W s) : ∃ K T NM AT r, s.ts = (K, T, NM, AT) :: r ∧ hd s = (K, T, NM, AT) ∧ TokOk (K, T, NM, AT) := by
  obtain ⟨o, rc, pv, bv, vs, h⟩ := h
  obtain ⟨⟨K, T, NM, AT⟩, r, hr⟩ := h.good.cons
  exact ⟨K, T, NM, AT, r, hr, by unfold hd; rw [hr]; rfl, h.good.lt _ (by rw [hr]; exact List.mem_cons_self)⟩
theorem two_le {ts : List Tok} {t : Tok} {r : List Tok} (h : TsOk ts) (hs : ts = t :: r) (hn : t.1 ≠ 5 ∨ t.2.1 ≠ []) : 2 ≤ ts.length := by
  subst hs
  obtain ⟨u, r', hr⟩ := (h.tail hn).cons
  rw [hr]
  simp
theorem PM.old {F : Nat → Prop} {g p : Nat} {W : World} {s : St} {o rc : Nat} {pv bv : Value} {vs : List Value} (h : PM F g p W s o rc pv bv vs) {X : World} (he : X.os = W.os ∧ X.tape = W.tape ∧ X.output = W.output) (hz : W.heap.size ≤ X.heap.size) (hc : ∀ b, b < W.heap.size → b ≠ p → X.heap[b]? = W.heap[b]?) : Keep F W X :=
  ⟨he.1, he.2.1, he.2.2, hz, fun k hk => hc k (h.dom k hk) (fun e => h.own (e ▸ hk))⟩
theorem PI.adv {F : Nat → Prop} {g p : Nat} {W W1 W' : World} {s : St} {o rc : Nat} {pv bv : Value} {vs : List Value} {t : Tok} {r : List Tok} (h : PM F g p W s o rc pv bv vs) (hs : s.ts = t :: r) (hn : t.1 ≠ 5 ∨ t.2.1 ≠ []) (hk : Kp W W1)
    (hw : W' = W1.setCell ⟨p, 0, none⟩ (.slice (some ⟨g, (o + 1) * 4, none⟩) (s.ts.length - 1) (rc - 1))) : PI F g p W' (SrcN.adv s) ∧ Keep F W W' := by
  have e : s.ts.length - 1 = r.length := by rw [hs]; simp
  rw [e] at hw
  subst hw
  have hc : ∀ b, b < W.heap.size → b ≠ p → (W1.setCell ⟨p, 0, none⟩ (.slice (some ⟨g, (o + 1) * 4, none⟩) r.length (rc - 1))).heap[b]? = W.heap[b]? := fun b hb hp => (heap_setCell_other W1 ⟨p, 0, none⟩ b _ hp).trans (hk.block b hb)
  have hz : W.heap.size ≤ (W1.setCell ⟨p, 0, none⟩ (.slice (some ⟨g, (o + 1) * 4, none⟩) r.length (rc - 1))).heap.size := by simpa using hk.size
  exact ⟨⟨_, _, _, _, _, h.advW hs hn hz hc ((h.blk.keep hk).set 0 _)⟩, h.old ⟨hk.os, hk.tape, hk.output⟩ hz hc⟩
theorem isW_eq {s : St} {K NM AT : Nat} {T w : List Nat} (hh : hd s = (K, T, NM, AT)) : isW w s = (K != 3 && T == w) := by unfold isW; rw [hh]
theorem is_st {F : Nat → Prop} {g p : Nat} {W : World} {s : St} (h : PI F g p W s) {X : ByteArray} {w : List Nat} (hX : X = st w) (hw : Lt w) :
    Calls Tryz.prog 90 #[.pointer (some ⟨p, 0, none⟩), .string X] W (StR F g p (.bool (isW w s)) s W) := by
  subst hX
  obtain ⟨K, T, NM, AT, r, hs, hh, hT⟩ := h.cons
  obtain ⟨o, rc, pv, bv, vs, h⟩ := h
  refine (is_any (h.pc hs) (st w)).mono ?_
  rintro e W' ⟨rfl, hk⟩
  exact ⟨by rw [hitB_eq hT.1 hw, isW_eq hh], ⟨_, _, _, _, _, h.kp hk⟩, Kp.keep hk h.dom⟩
theorem accept_st {F : Nat → Prop} {g p : Nat} {W : World} {s : St} (h : PI F g p W s) {X : ByteArray} {w : List Nat} (hX : X = st w) (hw : Lt w) (hne : w ≠ []) :
    Calls Tryz.prog 123 #[.pointer (some ⟨p, 0, none⟩), .string X] W (StR F g p (.bool (isW w s)) (if isW w s then SrcN.adv s else s) W) := by
  subst hX
  obtain ⟨K, T, NM, AT, r, hs, hh, hT⟩ := h.cons
  obtain ⟨o, rc, pv, bv, vs, h⟩ := h
  have hb := hitB_eq (K := K) hT.1 hw
  rw [← isW_eq hh] at hb
  cases hi : isW w s with
  | false =>
    rw [hi] at hb
    refine (accept_no (h.pc hs) (st w) hb).mono ?_
    rintro e W' ⟨rfl, hk⟩
    exact ⟨rfl, ⟨_, _, _, _, _, h.kp hk⟩, Kp.keep hk h.dom⟩
  | true =>
    have hi' := hi
    rw [hi] at hb
    rw [isW_eq hh] at hi'
    simp at hi'
    have hn : K ≠ 5 ∨ T ≠ [] := .inr (by rw [hi'.2]; exact hne)
    refine (accept_yes (h.pc hs) (st w) hb (two_le h.good hs hn)).mono ?_
    rintro e W' ⟨rfl, W1, hk, hW⟩
    have := PI.adv h hs hn hk hW
    exact ⟨rfl, this.1, this.2⟩
end By
end Go.Proofs.YtmflgfojicaecaaGreatDoor

/- More small parts of the parser: expect, take, reserved, name, text. Condition: the parser lies in memory as it is named. -/
namespace Go.Proofs.YtmflgfojicaecaaGreatDoor
namespace By
open Go.RowKit WireN LexN SrcN
set_option linter.unusedVariables false
set_option linter.unusedSimpArgs false

/-- Values of answers: nothing, a token, an index. -/
def vU : Unit → World → Value → Prop := fun _ _ v => v = .tuple #[]
def vT : Tok → World → Value → Prop := fun t _ v => v = .agg #[.int .i64 (t.1 : Nat), .string (st t.2.1), .int .i64 (t.2.2.1 : Nat), .int .i64 (t.2.2.2 : Nat)] ∧ TokOk t
def vN : Nat → World → Value → Prop := fun n _ v => v = .int .i64 (n : Nat)
theorem PI.kp {F : Nat → Prop} {g p : Nat} {W W' : World} {s : St} (h : PI F g p W s) (hk : Kp W W') : PI F g p W' s := by
  obtain ⟨o, rc, pv, bv, vs, h⟩ := h
  exact ⟨_, _, _, _, _, h.kp hk⟩
theorem PI.dom {F : Nat → Prop} {g p : Nat} {W : World} {s : St} (h : PI F g p W s) : ∀ k, F k → k < W.heap.size := by
  obtain ⟨o, rc, pv, bv, vs, h⟩ := h
  exact h.dom
set_option maxRecDepth 100000 in
theorem expect_st {F : Nat → Prop} {g p : Nat} {W : World} {s : St} (h : PI F g p W s) {X : ByteArray} {w : List Nat} (hX : X = st w) (hw : Lt w) (hne : w ≠ []) {r : Out Unit} (hr : expt w s = some r) :
    Calls Tryz.prog 88 #[.pointer (some ⟨p, 0, none⟩), .string X] W (Ans' F g p vU r W) := by
  have C := Lib.hid (accept_st h hX hw hne)
  have H := Lib.hid h
  obtain ⟨Q, hQ⟩ : ∃ Q, Q = Ans' F g p vU r W := ⟨_, rfl⟩
  rw [← hQ]
  have HQ := Lib.hid hQ
  clear h hX hQ
  cases hi : isW w s with
  | true =>
    unfold expt at hr
    rw [if_pos hi] at hr
    injection hr with hr
    rw [hi, if_pos rfl] at C
    have FIN : Hid (∀ W', StR F g p (.bool true) (SrcN.adv s) W (.returned (.bool true)) W' → Q (.returned (.tuple #[])) W') := by
      intro W' hs
      rw [HQ.out, ← hr]
      exact ⟨⟨_, rfl, rfl⟩, hs.pi, hs.kp⟩
    clear hr hi
    go_enter Tryz.func88, Tryz.ntmps88
    go_wp2_with fail
    refine C.out.mono ?_
    intro e W1 hs
    obtain rfl := hs.e
    have F2 := Lib.hid (FIN.out W1 hs)
    clear hs
    go_wp2_with fail
    exact ⟨rfl, _, results_none rfl _ _ _, F2.out⟩
  | false =>
    obtain ⟨K, T, NM, AT, t, hts, hh, hT⟩ := H.out.cons
    unfold expt at hr
    rw [if_neg (by rw [hi]; simp)] at hr
    injection hr with hr
    rw [hi, if_neg (by simp)] at C
    have FIN : Hid (∀ W1 W', StR F g p (.bool false) s W (.returned (.bool false)) W1 → Kp W1 W' → Q (pan AT 9) W') := by
      intro W1 W' hs hk
      rw [HQ.out, ← hr]
      refine ⟨?_, hs.kp.trans (Kp.keep hk hs.pi.dom)⟩
      rw [hh]
    have HTS := Lib.hid hts
    clear hr hi hts hh
    go_enter Tryz.func88, Tryz.ntmps88
    go_wp2_with fail
    refine C.out.mono ?_
    intro e W1 hs
    obtain rfl := hs.e
    have F2 := Lib.hid (FIN.out W1 · hs)
    obtain ⟨o, rc, pv, bv, vs, h1⟩ := hs.pi
    obtain ⟨c0, c1, c2, f0, t0, t1, t2, t3, hp, hl⟩ := h1.pc HTS.out
    have hrr : (s.ts.length : Int) ≠ 0 := by omega
    obtain ⟨len, hlen⟩ : ∃ len, len = s.ts.length := ⟨_, rfl⟩
    rw [← hlen] at c0 hp hrr
    clear hs h1 hl hlen
    go_wp2_with fail
    refine (fail_any K NM AT (st T) 9 W1).mono ?_
    rintro e W2 ⟨rfl, hk⟩
    exact ⟨rfl, F2.out W2 hk⟩
set_option maxRecDepth 100000 in
theorem take_st {F : Nat → Prop} {g p : Nat} {W : World} {s : St} (h : PI F g p W s) {k : Nat} (hk5 : k ≠ 5) {r : Out Tok} (hr : take k s = some r) :
    Calls Tryz.prog 125 #[.pointer (some ⟨p, 0, none⟩), .int .i64 (k : Nat)] W (Ans' F g p vT r W) := by
  obtain ⟨K, T, NM, AT, t, hts, hh, hT⟩ := h.cons
  obtain ⟨Q, hQ⟩ : ∃ Q, Q = Ans' F g p vT r W := ⟨_, rfl⟩
  rw [← hQ]
  obtain ⟨o, rc, pv, bv, vs, h⟩ := h
  have hpw := h.lt
  obtain ⟨W1, hW1⟩ : ∃ W1, W1 = W.alloc (Obj.cells #[.int .i64 0, .string ⟨#[]⟩, .int .i64 0, .int .i64 0] 111) := ⟨_, rfl⟩
  obtain ⟨W2, hW2⟩ : ∃ W2, W2 = W1.alloc (Obj.cells #[.int .i64 (K : Nat), .string (st T), .int .i64 (NM : Nat), .int .i64 (AT : Nat)] 111) := ⟨_, rfl⟩
  have hs1 : W1.heap.size = W.heap.size + 1 := by rw [hW1]; simp
  have k1 : Kp W W1 := by rw [hW1]; exact kp_alloc W _
  have k2 : Kp W1 W2 := by rw [hW2]; exact kp_alloc W1 _
  have b1 : Blk W1 W.heap.size 111 #[.int .i64 0, .string ⟨#[]⟩, .int .i64 0, .int .i64 0] := by rw [hW1]; exact Blk.new _ _ _
  have b2 : Blk W2 (W.heap.size + 1) 111 #[.int .i64 (K : Nat), .string (st T), .int .i64 (NM : Nat), .int .i64 (AT : Nat)] := by rw [hW2, ← hs1]; exact Blk.new _ _ _
  have hk := Kp.trans k1 k2
  by_cases hK : K = k
  · subst hK
    unfold take at hr
    rw [if_pos (by rw [hh])] at hr
    injection hr with hr
    have hn : K ≠ 5 ∨ T ≠ [] := .inl hk5
    have h2 := two_le h.good hts hn
    obtain ⟨X, hX⟩ : ∃ X, X = W2.setCell ⟨p, 0, none⟩ (.slice (some ⟨g, o * 4 + 4, none⟩) (s.ts.length - 1) (rc - 1)) := ⟨_, rfl⟩
    have e : s.ts.length - 1 = t.length := by rw [hts]; simp
    have bp : Blk X p 87 #[.slice (some ⟨g, (o + 1) * 4, none⟩) t.length (rc - 1), pv, bv] := by
      have := (h.blk.keep hk).set 0 (.slice (some ⟨g, o * 4 + 4, none⟩) (s.ts.length - 1) (rc - 1))
      rw [← hX, e, show o * 4 + 4 = (o + 1) * 4 by omega] at this
      exact this
    have ox : Only p W2 X := by rw [hX]; exact (Only.refl p W2).set 0 _
    have bx1 : Blk X W.heap.size 111 #[.int .i64 0, .string ⟨#[]⟩, .int .i64 0, .int .i64 0] := (ox.block _ (by omega)).trans (b1.keep k2)
    have bx2 : Blk X (W.heap.size + 1) 111 #[.int .i64 (K : Nat), .string (st T), .int .i64 (NM : Nat), .int .i64 (AT : Nat)] := (ox.block _ (by omega)).trans b2
    have FIN : Hid (∀ X', Only W.heap.size X X' → Q (.returned (.agg #[.int .i64 (K : Nat), .string (st T), .int .i64 (NM : Nat), .int .i64 (AT : Nat)])) X') := by
      intro X' ho
      rw [hQ, ← hr]
      have hc : ∀ b, b < W.heap.size → b ≠ p → X'.heap[b]? = W.heap[b]? := fun b hb hp => (ho.block b (by omega)).trans ((ox.block b hp).trans (hk.block b hb))
      have hz : W.heap.size ≤ X'.heap.size := Nat.le_trans hk.size (Nat.le_trans (Nat.le_of_eq ox.size) (Nat.le_of_eq ho.size))
      exact ⟨⟨_, rfl, by rw [hh], by rw [hh]; exact hT⟩, ⟨_, _, _, _, _, h.advW hts hn hz hc ((ho.block p (by omega)).trans bp)⟩, h.old ⟨ho.os.trans (ox.os.trans hk.os), ho.tape.trans (ox.tape.trans hk.tape), ho.output.trans (ox.output.trans hk.output)⟩ hz hc⟩
    obtain ⟨c0, c1, c2, f0, t0, t1, t2, t3, hp, hl⟩ := (h.pc hts).kp k1
    obtain ⟨d0, d1, d2, e0, -, -, -, -, -, -⟩ := (h.pc hts).kp hk
    have q0 := b2.cell 0 rfl; have q1 := b2.cell 1 rfl; have q2 := b2.cell 2 rfl; have q3 := b2.cell 3 rfl
    have z0 := bx1.cell 0 rfl; have z1 := bx1.cell 1 rfl; have z2 := bx1.cell 2 rfl; have z3 := bx1.cell 3 rfl
    have g0 := bx1.free 0; have g1 := bx1.free 1; have g2 := bx1.free 2; have g3 := bx1.free 3
    have y0 := bx2.cell 0 rfl; have y1 := bx2.cell 1 rfl; have y2 := bx2.cell 2 rfl; have y3 := bx2.cell 3 rfl
    have hrr : (s.ts.length : Int) ≠ 0 := by omega
    have hl1 := hl.1; have hl2 := hl.2
    have hrc : ¬ rc = 1 := by omega
    obtain ⟨len, hlen⟩ : ∃ len, len = s.ts.length := ⟨_, rfl⟩
    rw [← hlen] at c0 d0 hp hrr hX hl1 h2
    rw [hX] at z0 z1 z2 z3 g0 g1 g2 g3 y0 y1 y2 y3
    rw [hW1] at c0 t0 t1 t2 t3
    rw [hW2, hW1] at q0 q1 q2 q3 d0 e0 z0 z1 z2 z3 g0 g1 g2 g3 y0 y1 y2 y3
    have HW2 := Lib.hid hW2; have HW1 := Lib.hid hW1; have HX := Lib.hid hX; have BX := Lib.hid bx1
    clear hW1 hW2 hs1 k1 k2 b1 b2 hk hr hQ h hl hlen hh hts c1 c2 f0 hpw d1 d2 hX ox bx1 bx2 bp e
    go_enter Tryz.func125, Tryz.ntmps125
    go_wp2_with fail
    rw [← HW1.out, ← HW2.out, ← HX.out]
    clear c0 d0 t0 t1 t2 t3 q0 q1 q2 q3 z0 z1 z2 z3 g0 g1 g2 g3 y0 y1 y2 y3 e0
    obtain ⟨Y, hY⟩ : ∃ Y, Y = (((X.setCell ⟨W.heap.size, 0, none⟩ (.int .i64 (K : Nat))).setCell ⟨W.heap.size, 1, none⟩ (.string (st T))).setCell ⟨W.heap.size, 2, none⟩ (.int .i64 (NM : Nat))).setCell ⟨W.heap.size, 3, none⟩ (.int .i64 (AT : Nat)) := ⟨_, rfl⟩
    have oy : Only W.heap.size X Y := by rw [hY]; exact ((((Only.refl _ X).set 0 _).set 1 _).set 2 _).set 3 _
    have by4 : Blk Y W.heap.size 111 #[.int .i64 (K : Nat), .string (st T), .int .i64 (NM : Nat), .int .i64 (AT : Nat)] := by rw [hY]; exact (((BX.out.set 0 _).set 1 _).set 2 _).set 3 _
    rw [← hY]
    have c0 := by4.cell 0 rfl; have c1 := by4.cell 1 rfl; have c2 := by4.cell 2 rfl; have c3 := by4.cell 3 rfl
    exact bodyPost_ret (by simp [results, Tryz.results125, go_sem, c0, c1, c2, c3]) rfl (FIN.out Y oy)
  · have hK' : ((K : Int) == (k : Int)) = false := beq_eq_false_iff_ne.2 (by omega)
    have hK2 : ¬ (K : Int) = (k : Int) := by omega
    unfold take at hr
    rw [if_neg (by rw [hh]; exact hK)] at hr
    injection hr with hr
    have FIN : Hid (∀ W', Kp W2 W' → Q (pan AT 9) W') := by
      intro W' hk'
      rw [hQ, ← hr]
      refine ⟨by rw [hh], Kp.keep (Kp.trans hk hk') h.dom⟩
    obtain ⟨c0, c1, c2, f0, t0, t1, t2, t3, hp, hl⟩ := (h.pc hts).kp k1
    have q0 := b2.cell 0 rfl; have q1 := b2.cell 1 rfl; have q2 := b2.cell 2 rfl; have q3 := b2.cell 3 rfl
    have hrr : (s.ts.length : Int) ≠ 0 := by omega
    obtain ⟨len, hlen⟩ : ∃ len, len = s.ts.length := ⟨_, rfl⟩
    rw [← hlen] at c0 hp hrr
    rw [hW1] at c0 t0 t1 t2 t3
    rw [hW2, hW1] at q0 q1 q2 q3
    have HW2 := Lib.hid hW2; have HW1 := Lib.hid hW1
    clear hW1 hW2 hs1 k1 k2 b1 b2 hk hr hQ h hl hlen hh hts c1 c2 f0 hpw
    go_enter Tryz.func125, Tryz.ntmps125
    go_wp2_with fail
    rw [← HW1.out, ← HW2.out]
    refine (fail_any K NM AT (st T) 9 W2).mono ?_
    rintro e W3 ⟨rfl, hk⟩
    exact ⟨rfl, FIN.out W3 hk⟩
end By
end Go.Proofs.YtmflgfojicaecaaGreatDoor

/- More small parts of the parser: reserved, name, text. Condition: the parser lies in memory as it is named. -/
namespace Go.Proofs.YtmflgfojicaecaaGreatDoor
namespace By
open Go.RowKit WireN LexN SrcN
set_option linter.unusedVariables false
set_option linter.unusedSimpArgs false

theorem st_u8 {T : List Nat} (hT : Lt T) (l : List UInt8) : ((st T).toList == l) = (T == l.map UInt8.toNat) := by
  rw [Bool.eq_iff_iff, beq_iff_eq, beq_iff_eq, ByteArray.toList_eq]
  constructor
  · intro h
    have h2 : bs (st T) = l.map UInt8.toNat := by unfold bs; rw [h]
    rwa [bs_st hT] at h2
  · intro h
    rw [h]
    unfold st
    have e : ((fun n => UInt8.ofNat n) ∘ UInt8.toNat) = id := by funext x; simp
    simp [e]
/-- Whether bytes are a reserved word. -/
def resvU (L : List UInt8) : Bool := L == [112, 97, 99, 107, 97, 103, 101] || (L == [105, 109, 112, 111, 114, 116] || (L == [102, 117, 110, 99] || (L == [116, 101, 115, 116] || (L == [103, 101, 110] || (L == [105, 102] || (L == [116, 104, 101, 110] || (L == [101, 108, 115, 101] || (L == [114, 101, 97, 100] || (L == [115, 105, 122, 101] || (L == [104, 97, 115] || (L == [101, 110, 118] || (L == [102, 108, 105, 112]))))))))))))
theorem resvU_eq {T : List Nat} (hT : Lt T) : resvU (st T).toList = resv T := by
  unfold resvU resv words
  simp only [st_u8 hT, List.any_cons, List.any_nil, Bool.or_false]
  rfl
set_option maxRecDepth 100000 in
theorem reserved_u (S : ByteArray) (W : World) :
    Calls Tryz.prog 98 #[.string S] W fun e W' => e = .returned (.bool (resvU S.toList)) ∧ W = W' := by
  go_enter Tryz.func98, Tryz.ntmps98
  go_wp2_with fail
  all_goals (go_ret; exact ⟨by simp_all [resvU], rfl⟩)
theorem reserved_any {T : List Nat} (hT : Lt T) (W : World) :
    Calls Tryz.prog 98 #[.string (st T)] W fun e W' => e = .returned (.bool (resv T)) ∧ W = W' := by
  rw [← resvU_eq hT]
  exact reserved_u (st T) W
set_option maxRecDepth 100000 in
theorem name_st {F : Nat → Prop} {g p : Nat} {W : World} {s : St} (h : PI F g p W s) {r : Out Tok} (hr : name s = some r) :
    Calls Tryz.prog 89 #[.pointer (some ⟨p, 0, none⟩)] W (Ans' F g p vT r W) := by
  obtain ⟨Q, hQ⟩ : ∃ Q, Q = Ans' F g p vT r W := ⟨_, rfl⟩
  rw [← hQ]
  have HQ := Lib.hid hQ
  have H := Lib.hid h
  obtain ⟨W0, hW0⟩ : ∃ W0, W0 = W.alloc (Obj.cells #[.int .i64 0, .string ⟨#[]⟩, .int .i64 0, .int .i64 0] 111) := ⟨_, rfl⟩
  have hs0 : W0.heap.size = W.heap.size + 1 := by rw [hW0]; simp
  have K0 : Hid (Kp W W0) := by show Kp W W0; rw [hW0]; exact kp_alloc W _
  have B0 : Hid (Blk W0 W.heap.size 111 #[.int .i64 0, .string ⟨#[]⟩, .int .i64 0, .int .i64 0]) := by show Blk _ _ _ _; rw [hW0]; exact Blk.new _ _ _
  have HW0 := Lib.hid hW0; have Z0 := Lib.hid hs0
  clear hQ h hW0 hs0
  rcases bnd_some hr with ⟨a, e, hm, rfl⟩ | ⟨⟨K, T, NM, AT⟩, s', hm, hk2⟩
  · have C := Lib.hid (take_st (H.out.fresh K0.out) (by decide : (1 : Nat) ≠ 5) hm)
    clear hr hm
    go_enter Tryz.func89, Tryz.ntmps89
    go_wp2_with fail
    rw [← HW0.out]
    refine C.out.mono ?_
    rintro e1 W1 ⟨rfl, hk⟩
    refine ⟨rfl, ?_⟩
    rw [HQ.out]
    exact ⟨rfl, (Kp.keep K0.out H.out.dom).trans (hk.mono (fun k hk => .inl hk))⟩
  · have C := Lib.hid (take_st (H.out.fresh K0.out) (by decide : (1 : Nat) ≠ 5) hm)
    have HR := Lib.hid hk2
    clear hr hm hk2
    go_enter Tryz.func89, Tryz.ntmps89
    go_wp2_with fail
    rw [← HW0.out]
    refine C.out.mono ?_
    rintro e1 W1 ⟨⟨v, rfl, rfl, hT⟩, hpi, hke⟩
    have PI1 := Lib.hid hpi; have KE1 := Lib.hid hke; have HT := Lib.hid hT
    have B1 : Hid (Blk W1 W.heap.size 111 #[.int .i64 0, .string ⟨#[]⟩, .int .i64 0, .int .i64 0]) := B0.out.kept hke (.inr ⟨Nat.le_refl _, by have := Z0.out; omega⟩)
    obtain ⟨W2, hW2⟩ : ∃ W2, W2 = W1.alloc (Obj.cells #[.int .i64 (K : Nat), .string (st T), .int .i64 (NM : Nat), .int .i64 (AT : Nat)] 111) := ⟨_, rfl⟩
    have K2 : Hid (Kp W1 W2) := by show Kp W1 W2; rw [hW2]; exact kp_alloc W1 _
    have b2 : Blk W2 W1.heap.size 111 #[.int .i64 (K : Nat), .string (st T), .int .i64 (NM : Nat), .int .i64 (AT : Nat)] := by rw [hW2]; exact Blk.new _ _ _
    have q0 := b2.cell 0 rfl; have q1 := b2.cell 1 rfl; have q2 := b2.cell 2 rfl; have q3 := b2.cell 3 rfl
    have HW2 := Lib.hid hW2
    have Z1 := Lib.hid hke.size
    rw [hW2] at q0 q1 q2 q3
    clear hpi hke hT hW2 b2
    go_wp2_with fail
    rw [← HW2.out] at q0 q1 q2 q3 ⊢
    refine (reserved_any HT.out.1 W2).mono ?_
    rintro e2 W3 ⟨rfl, rfl⟩
    cases hb : resv T with
    | true =>
      have FIN : Hid (∀ W4, Kp W2 W4 → Q (pan AT 9) W4) := by
        intro W4 hk4
        have hh := HR.out
        simp only [hb, if_pos] at hh
        rw [HQ.out]
        unfold SrcN.fail at hh
        injection hh with hh
        rw [← hh]
        have kk := Kp.trans K2.out hk4
        exact ⟨rfl, (PI.back H.out K0.out PI1.out KE1.out kk.size ⟨kk.os, kk.tape, kk.output⟩ (fun b hb _ => kk.block b hb)).2⟩
      clear hb
      go_wp2_with fail
      refine (fail_any K NM AT (st T) 9 W2).mono ?_
      rintro e W4 ⟨rfl, hk⟩
      exact ⟨rfl, FIN.out W4 hk⟩
    | false =>
      have FIN : Hid (∀ W4, Only W.heap.size W2 W4 → Q (.returned (.agg #[.int .i64 (K : Nat), .string (st T), .int .i64 (NM : Nat), .int .i64 (AT : Nat)])) W4) := by
        intro W4 ho
        have hh := HR.out
        simp only [hb, if_neg, Bool.false_eq_true, if_false] at hh
        rw [HQ.out]
        unfold ret at hh
        injection hh with hh
        rw [← hh]
        have kk := K2.out
        have := PI.back H.out K0.out PI1.out KE1.out (W2 := W4) (Nat.le_trans kk.size (Nat.le_of_eq ho.size)) ⟨ho.os.trans kk.os, ho.tape.trans kk.tape, ho.output.trans kk.output⟩ (fun b hb hn => (ho.block b (fun e => hn ⟨by omega, by have := Z0.out; omega⟩)).trans (kk.block b hb))
        exact ⟨⟨_, rfl, rfl, HT.out⟩, this.1, this.2⟩
      have b1 := B1.out.keep K2.out
      have z0 := b1.cell 0 rfl; have z1 := b1.cell 1 rfl; have z2 := b1.cell 2 rfl; have z3 := b1.cell 3 rfl
      have g0 := b1.free 0; have g1 := b1.free 1; have g2 := b1.free 2; have g3 := b1.free 3
      have BX := Lib.hid b1
      clear hb b1
      go_wp2_with fail
      clear q0 q1 q2 q3 z0 z1 z2 z3 g0 g1 g2 g3
      obtain ⟨Y, hY⟩ : ∃ Y, Y = (((W2.setCell ⟨W.heap.size, 0, none⟩ (.int .i64 (K : Nat))).setCell ⟨W.heap.size, 1, none⟩ (.string (st T))).setCell ⟨W.heap.size, 2, none⟩ (.int .i64 (NM : Nat))).setCell ⟨W.heap.size, 3, none⟩ (.int .i64 (AT : Nat)) := ⟨_, rfl⟩
      have oy : Only W.heap.size W2 Y := by rw [hY]; exact ((((Only.refl _ W2).set 0 _).set 1 _).set 2 _).set 3 _
      have by4 : Blk Y W.heap.size 111 #[.int .i64 (K : Nat), .string (st T), .int .i64 (NM : Nat), .int .i64 (AT : Nat)] := by rw [hY]; exact (((BX.out.set 0 _).set 1 _).set 2 _).set 3 _
      rw [← hY]
      have c0 := by4.cell 0 rfl; have c1 := by4.cell 1 rfl; have c2 := by4.cell 2 rfl; have c3 := by4.cell 3 rfl
      exact bodyPost_ret (by simp [results, Tryz.results89, go_sem, c0, c1, c2, c3]) rfl (FIN.out Y oy)
end By
end Go.Proofs.YtmflgfojicaecaaGreatDoor
