/- How the program's parser lies in memory, and what its parts answer. No condition. -/
import Derived.Test.YtmflgfojicaecaaGreatDoorSSpec
import Derived.Test.YtmflgfojicaecaaGreatDoorMLc
import Derived.Test.YtmflgfojicaecaaGreatDoorMLd
import Derived.Maps.AppendAt
namespace Go.Proofs.YtmflgfojicaecaaGreatDoor
namespace By
open Go.RowKit WireN LexN SrcN
set_option linter.unusedVariables false
set_option linter.unusedSimpArgs false

/-- The blocks of F are as they were; new memory was made. -/
structure Keep (F : Nat → Prop) (w w' : World) : Prop where
  os : w'.os = w.os
  tape : w'.tape = w.tape
  output : w'.output = w.output
  size : w.heap.size ≤ w'.heap.size
  block : ∀ k, F k → w'.heap[k]? = w.heap[k]?
theorem Keep.refl (F : Nat → Prop) (w : World) : Keep F w w := ⟨rfl, rfl, rfl, Nat.le_refl _, fun _ _ => rfl⟩
theorem Keep.trans {F : Nat → Prop} {a b c : World} (h : Keep F a b) (k : Keep F b c) : Keep F a c :=
  ⟨k.os.trans h.os, k.tape.trans h.tape, k.output.trans h.output, Nat.le_trans h.size k.size, fun i hi => (k.block i hi).trans (h.block i hi)⟩
theorem Keep.mono {F G : Nat → Prop} {a b : World} (h : Keep F a b) (hs : ∀ k, G k → F k) : Keep G a b := ⟨h.os, h.tape, h.output, h.size, fun k hk => h.block k (hs k hk)⟩
theorem Kp.keep {F : Nat → Prop} {w w' : World} (h : Kp w w') (hd : ∀ k, F k → k < w.heap.size) : Keep F w w' := ⟨h.os, h.tape, h.output, h.size, fun k hk => h.block k (hd k hk)⟩
theorem Keep.kp {F : Nat → Prop} {w0 w w' : World} (h : Keep F w w') (hk : Kp w0 w) (hf : ∀ k, k < w0.heap.size → F k) : Kp w0 w' :=
  Below.trans hk ⟨h.os, h.tape, h.output, h.size, fun k hk' => h.block k (hf k hk')⟩
theorem Keep.set {F : Nat → Prop} {a w : World} (h : Keep F a w) {g : Nat} (hg : ¬ F g) (i : Nat) (u : Value) : Keep F a (w.setCell ⟨g, i, none⟩ u) :=
  h.trans ⟨rfl, rfl, rfl, by simp, fun k hk => heap_setCell_other w ⟨g, i, none⟩ k u (fun e => hg (by subst e; exact hk))⟩
theorem Keep.cell {F : Nat → Prop} {w w' : World} (h : Keep F w w') {g i : Nat} {v : Value} (hg : F g) (hc : w.cell? ⟨g, i, none⟩ = some v) : w'.cell? ⟨g, i, none⟩ = some v :=
  (World.cell?_of_block (h.block g hg)).trans hc
theorem Keep.grown {F : Nat → Prop} {a b c : World} {row : Option Nat} (h : Keep F a b) (hg : b.grownBy c row) (hd : ∀ k, F k → k < b.heap.size) (hr : ∀ r, row = some r → ¬ F r) : Keep F a c :=
  h.trans ⟨hg.os, hg.tape, hg.output, hg.size, fun k hk => hg.block k (hd k hk) (fun e => hr k e.symm hk)⟩

/-- The cells of a node. -/
def ncell (n : Nd) (v : Value) : List Value := [.int .i64 (n.k : Nat), .int .i64 n.num, .int .i64 (n.op : Nat), .string (st n.nm), v]
def ncells : List Nd → List Value → List Value
  | n :: ns, v :: vs => ncell n v ++ ncells ns vs
  | _, _ => []
theorem ncells_snoc : ∀ (ns : List Nd) (vs : List Value) (n : Nd) (v : Value), vs.length = ns.length → ncells (ns ++ [n]) (vs ++ [v]) = ncells ns vs ++ ncell n v
  | [], [], n, v, _ => rfl
  | m :: ns, u :: vs, n, v, h => by
    have := ncells_snoc ns vs n v (by simpa using h)
    simp only [List.cons_append, ncells, this, List.append_assoc]
  | [], _ :: _, _, _, h => by simp at h
  | _ :: _, [], _, _, h => by simp at h
theorem ncells_len : ∀ (ns : List Nd) (vs : List Value), vs.length = ns.length → (ncells ns vs).length = ns.length * 5
  | [], [], _ => rfl
  | n :: ns, v :: vs, h => by
    have := ncells_len ns vs (by simpa using h)
    simp only [ncells, ncell, List.length_append, List.length_cons, List.length_nil, this]; omega
  | [], _ :: _, h => by simp at h
  | _ :: _, [], h => by simp at h
/-- A slice that reads as indices; its block, if it has one that is read, fits. -/
structure Ints (G : Nat → Prop) (w : World) (v : Value) (xs : List Nat) : Prop where
  ex : ∃ ao c, v = .slice ao xs.length c ∧ xs.length ≤ c ∧ (xs = [] ∨ ∃ b o, ao = some ⟨b, o, none⟩ ∧ G b ∧ b < w.heap.size ∧ ∀ j x, xs[j]? = some x → w.cell? ⟨b, o + j, none⟩ = some (.int .i64 (x : Nat)))
theorem Ints.nil (G : Nat → Prop) (w : World) : Ints G w (.slice none 0 0) [] := ⟨none, 0, rfl, Nat.le_refl _, .inl rfl⟩
theorem Ints.mono {G H : Nat → Prop} {w w' : World} {v : Value} {xs : List Nat} (h : Ints G w v xs) (hs : ∀ b, G b → b < w.heap.size → H b ∧ w'.heap[b]? = w.heap[b]?) (hz : w.heap.size ≤ w'.heap.size) : Ints H w' v xs := by
  obtain ⟨ao, c, rfl, hc, hx⟩ := h.ex
  refine ⟨ao, c, rfl, hc, ?_⟩
  rcases hx with rfl | ⟨b, o, rfl, hb, hlt, hx⟩
  · exact .inl rfl
  · exact .inr ⟨b, o, rfl, (hs b hb hlt).1, Nat.lt_of_lt_of_le hlt hz, fun j x hj => (World.cell?_of_block (hs b hb hlt).2).trans (hx j x hj)⟩
/-- The cells of the table of operators. -/
def opsCells : List Value := [.string ⟨#[]⟩, .int .i64 0, .string ⟨#[43]⟩, .int .i64 2, .string ⟨#[45]⟩, .int .i64 2, .string ⟨#[42]⟩, .int .i64 3, .string ⟨#[47]⟩, .int .i64 3, .string ⟨#[37]⟩, .int .i64 3, .string ⟨#[60]⟩, .int .i64 1, .string ⟨#[61, 61]⟩, .int .i64 1]
/-- The blocks that are only read: the tokens', the variable MaxLen, the table of operators. -/
def Bs (g b : Nat) : Prop := b = g ∨ b = 1 ∨ b = 0
structure Glob (w : World) : Prop where
  mx : ∃ m, w.cell? ⟨1, 0, none⟩ = some (.int .i64 m)
  op : ∀ (i : Nat) (v : Value), opsCells[i]? = some v → w.cell? ⟨0, i, none⟩ = some v
theorem Glob.keep {g : Nat} {w w' : World} (h : Glob w) (hb : ∀ b, Bs g b → w'.heap[b]? = w.heap[b]?) : Glob w' := by
  obtain ⟨⟨m, hm⟩, ho⟩ := h
  exact ⟨⟨m, (World.cell?_of_block (hb _ (.inr (.inl rfl)))).trans hm⟩, fun i v hv => (World.cell?_of_block (hb _ (.inr (.inr rfl)))).trans (ho i v hv)⟩
/-- A token that can be. -/
def TokOk (t : Tok) : Prop := Lt t.2.1 ∧ t.2.1.length ≤ 100000 ∧ t.1 ≤ 5 ∧ t.2.2.1 ≤ 9007199254740992 ∧ t.2.2.2 ≤ 100000
/-- A good list of tokens: the last one is the end. -/
structure TsOk (ts : List Tok) : Prop where
  fin : ∃ t, ts.getLast? = some t ∧ t.1 = 5 ∧ t.2.1 = []
  lt : ∀ t ∈ ts, TokOk t
  few : ts.length ≤ 100000
theorem TsOk.cons {ts : List Tok} (h : TsOk ts) : ∃ t r, ts = t :: r := by
  obtain ⟨t, h1, -⟩ := h.fin
  cases ts with
  | nil => simp at h1
  | cons t r => exact ⟨t, r, rfl⟩
theorem TsOk.tail {t : Tok} {r : List Tok} (h : TsOk (t :: r)) (hn : t.1 ≠ 5 ∨ t.2.1 ≠ []) : TsOk r := by
  obtain ⟨u, h1, h2, h3⟩ := h.fin
  have hr : r ≠ [] := by
    rintro rfl
    simp at h1
    subst h1
    rcases hn with h | h
    · exact h h2
    · exact h h3
  refine ⟨⟨u, ?_, h2, h3⟩, fun x hx => h.lt x (List.mem_cons_of_mem _ hx), by have := h.few; simp at this; omega⟩
  cases r with
  | nil => exact absurd rfl hr
  | cons a r => simpa using h1
/-- The parser's memory: its block p, the tokens' block g; the blocks of F are others'. -/
structure PM (F : Nat → Prop) (g p : Nat) (W : World) (s : St) (o : Nat) (rc : Nat) (pv bv : Value) (vs : List Value) : Prop where
  dom : ∀ k, F k → k < W.heap.size
  tok : ∀ b, Bs g b → F b
  glob : Glob W
  own : ¬ F p
  blk : Blk W p 87 #[.slice (some ⟨g, o * 4, none⟩) s.ts.length rc, pv, bv]
  toks : ∀ (i : Nat) (t : Tok), s.ts[i]? = some t → ∀ (j : Nat) (u : Value), (tcell t)[j]? = some u → W.cell? ⟨g, (o + i) * 4 + j, none⟩ = some u
  good : TsOk s.ts
  cap : s.ts.length ≤ rc ∧ rc ≤ maxLen
  pown : s.lv = true → W.ownsRow 0 9 1 pv s.ps.length (s.ps.map fun n => Value.string (st n))
  pfew : s.lv = true → s.ps.length ≤ 8
  plt : s.lv = true → ∀ n ∈ s.ps, Lt n
  poff : s.lv = true → ∀ b, pv.ownBlock = some b → ¬ F b ∧ b ≠ p
  bown : s.lv = true → W.ownsRow 0 57 5 bv s.bd.length (ncells s.bd vs)
  bfew : s.lv = true → s.bd.length ≤ 256
  boff : s.lv = true → ∀ b, bv.ownBlock = some b → ¬ F b ∧ b ≠ p ∧ pv.ownBlock ≠ some b
  vlen : s.lv = true → vs.length = s.bd.length
  args : s.lv = true → ∀ (i : Nat) (n : Nd) (v : Value), s.bd[i]? = some n → vs[i]? = some v → Ints (fun b => ¬ F b ∧ b ≠ p ∧ pv.ownBlock ≠ some b ∧ bv.ownBlock ≠ some b) W v n.args
theorem own_keep {W W' : World} {B n m : Nat} {T : TypeId} {v : Value} {xs : List Value} (h : W.ownsRow B T n v m xs) (hk : ∀ b, v.ownBlock = some b → W'.heap[b]? = W.heap[b]?) : W'.ownsRow B T n v m xs := by
  refine ⟨h.1, ?_⟩
  rcases h.2 with hn | ⟨g, cap, cur, e, hb, hg, r⟩
  · exact .inl hn
  · exact .inr ⟨g, cap, cur, e, hb, (hk g (by rw [e]; rfl)).trans hg, r⟩
/-- Nothing of the parser has changed. -/
theorem PM.same {F : Nat → Prop} {g p : Nat} {W W' : World} {s : St} {o rc : Nat} {pv bv : Value} {vs : List Value} (h : PM F g p W s o rc pv bv vs) (hz : W.heap.size ≤ W'.heap.size) (hb : ∀ b, b < W.heap.size → W'.heap[b]? = W.heap[b]?) : PM F g p W' s o rc pv bv vs where
  dom k hk := Nat.lt_of_lt_of_le (h.dom k hk) hz
  tok := h.tok
  glob := h.glob.keep (g := g) (fun b hx => hb b (h.dom b (h.tok b hx)))
  own := h.own
  blk := (hb p h.blk.lt).trans h.blk
  toks i t ht j u hu := by
    have hc := h.toks i t ht j u hu
    exact (World.cell?_of_block (hb g (World.block_lt_of_cell? W _ hc))).trans hc
  good := h.good
  cap := h.cap
  pown := fun l => own_keep (h.pown l) (fun b hv => hb b ((h.pown l).lt b hv).2)
  pfew := h.pfew
  plt := h.plt
  poff := h.poff
  bown := fun l => own_keep (h.bown l) (fun b hv => hb b ((h.bown l).lt b hv).2)
  bfew := h.bfew
  boff := h.boff
  vlen := h.vlen
  args l i n v hn hv := (h.args l i n v hn hv).mono (fun b h1 h2 => ⟨h1, hb b h2⟩) hz
theorem PM.kp {F : Nat → Prop} {g p : Nat} {W W' : World} {s : St} {o rc : Nat} {pv bv : Value} {vs : List Value} (h : PM F g p W s o rc pv bv vs) (hk : Kp W W') : PM F g p W' s o rc pv bv vs := h.same hk.size (fun b hb => hk.block b hb)
/-- Fewer blocks are others'. -/
theorem PM.less {F G : Nat → Prop} {g p : Nat} {W : World} {s : St} {o rc : Nat} {pv bv : Value} {vs : List Value} (h : PM F g p W s o rc pv bv vs) (hs : ∀ k, G k → F k) (hg : ∀ b, Bs g b → G b) : PM G g p W s o rc pv bv vs where
  dom k hk := h.dom k (hs k hk)
  tok := hg
  glob := h.glob
  own hk := h.own (hs p hk)
  blk := h.blk
  toks := h.toks
  good := h.good
  cap := h.cap
  pown := h.pown
  pfew := h.pfew
  plt := h.plt
  poff l b hv := ⟨fun hk => (h.poff l b hv).1 (hs b hk), (h.poff l b hv).2⟩
  bown := h.bown
  bfew := h.bfew
  boff l b hv := ⟨fun hk => (h.boff l b hv).1 (hs b hk), (h.boff l b hv).2⟩
  vlen := h.vlen
  args l i n v hn hv := (h.args l i n v hn hv).mono (fun b h1 _ => ⟨⟨fun hk => h1.1 (hs b hk), h1.2⟩, rfl⟩) (Nat.le_refl _)
theorem PM.lt {F : Nat → Prop} {g p : Nat} {W : World} {s : St} {o rc : Nat} {pv bv : Value} {vs : List Value} (h : PM F g p W s o rc pv bv vs) : p < W.heap.size := h.blk.lt
theorem PM.gp {F : Nat → Prop} {g p : Nat} {W : World} {s : St} {o rc : Nat} {pv bv : Value} {vs : List Value} (h : PM F g p W s o rc pv bv vs) : g ≠ p := fun e => h.own (e ▸ h.tok g (.inl rfl))
/-- What others' blocks hold may change. -/
theorem PM.outer {F : Nat → Prop} {g p : Nat} {W W' : World} {s : St} {o rc : Nat} {pv bv : Value} {vs : List Value} (h : PM F g p W s o rc pv bv vs) (hz : W.heap.size ≤ W'.heap.size) (hb : ∀ b, b < W.heap.size → ¬ F b → W'.heap[b]? = W.heap[b]?) (hg : ∀ b, Bs g b → W'.heap[b]? = W.heap[b]?) : PM F g p W' s o rc pv bv vs where
  dom k hk := Nat.lt_of_lt_of_le (h.dom k hk) hz
  tok := h.tok
  glob := h.glob.keep hg
  own := h.own
  blk := (hb p h.blk.lt h.own).trans h.blk
  toks i t ht j u hu := (World.cell?_of_block (hg g (.inl rfl))).trans (h.toks i t ht j u hu)
  good := h.good
  cap := h.cap
  pown := fun l => own_keep (h.pown l) (fun b hv => hb b ((h.pown l).lt b hv).2 (h.poff l b hv).1)
  pfew := h.pfew
  plt := h.plt
  poff := h.poff
  bown := fun l => own_keep (h.bown l) (fun b hv => hb b ((h.bown l).lt b hv).2 (h.boff l b hv).1)
  bfew := h.bfew
  boff := h.boff
  vlen := h.vlen
  args l i n v hn hv := (h.args l i n v hn hv).mono (fun b h1 h2 => ⟨h1, hb b h2 h1.1⟩) hz
/-- New blocks are others'. -/
theorem PM.fresh {F : Nat → Prop} {g p : Nat} {W W0 : World} {s : St} {o rc : Nat} {pv bv : Value} {vs : List Value} (h : PM F g p W s o rc pv bv vs) (hk : Kp W W0) : PM (fun k => F k ∨ (W.heap.size ≤ k ∧ k < W0.heap.size)) g p W0 s o rc pv bv vs := by
  have h' := h.kp hk
  have key : ∀ b, b < W.heap.size → ¬ F b → ¬ (F b ∨ (W.heap.size ≤ b ∧ b < W0.heap.size)) := fun b hb hf hx => by
    rcases hx with hx | hx
    · exact hf hx
    · omega
  exact {
    dom := fun k hk' => by
      rcases hk' with hk' | hk'
      · exact h'.dom k hk'
      · exact hk'.2
    tok := fun b hb => .inl (h.tok b hb)
    glob := h'.glob
    own := key p h.blk.lt h.own
    blk := h'.blk
    toks := h'.toks
    good := h.good
    cap := h.cap
    pown := h'.pown
    pfew := h.pfew
    plt := h.plt
    poff := fun l b hv => ⟨key b ((h.pown l).lt b hv).2 (h.poff l b hv).1, (h.poff l b hv).2⟩
    bown := h'.bown
    bfew := h.bfew
    boff := fun l b hv => ⟨key b ((h.bown l).lt b hv).2 (h.boff l b hv).1, (h.boff l b hv).2⟩
    vlen := h.vlen
    args := fun l i n v hn hv => (h.args l i n v hn hv).mono (fun b h1 h2 => ⟨⟨key b h2 h1.1, h1.2⟩, hk.block b h2⟩) hk.size }
/-- Others' blocks may change, and new ones are others'. -/
theorem PM.wide {F : Nat → Prop} {g p : Nat} {W W0 : World} {s : St} {o rc : Nat} {pv bv : Value} {vs : List Value} (h : PM F g p W s o rc pv bv vs) (hz : W.heap.size ≤ W0.heap.size) (hb : ∀ b, b < W.heap.size → ¬ F b → W0.heap[b]? = W.heap[b]?) (hg : ∀ b, Bs g b → W0.heap[b]? = W.heap[b]?) : PM (fun k => F k ∨ (W.heap.size ≤ k ∧ k < W0.heap.size)) g p W0 s o rc pv bv vs := by
  have h' := h.outer hz hb hg
  have key : ∀ b, b < W.heap.size → ¬ F b → ¬ (F b ∨ (W.heap.size ≤ b ∧ b < W0.heap.size)) := fun b hb hf hx => by
    rcases hx with hx | hx
    · exact hf hx
    · omega
  exact {
    dom := fun k hk' => by
      rcases hk' with hk' | hk'
      · exact h'.dom k hk'
      · exact hk'.2
    tok := fun b hb => .inl (h.tok b hb)
    glob := h'.glob
    own := key p h.blk.lt h.own
    blk := h'.blk
    toks := h'.toks
    good := h.good
    cap := h.cap
    pown := h'.pown
    pfew := h.pfew
    plt := h.plt
    poff := fun l b hv => ⟨key b ((h.pown l).lt b hv).2 (h.poff l b hv).1, (h.poff l b hv).2⟩
    bown := h'.bown
    bfew := h.bfew
    boff := fun l b hv => ⟨key b ((h.bown l).lt b hv).2 (h.boff l b hv).1, (h.boff l b hv).2⟩
    vlen := h.vlen
    args := fun l i n v hn hv => (h.args l i n v hn hv).mono (fun b h1 h2 => ⟨⟨key b h2 h1.1, h1.2⟩, hb b h2 h1.1⟩) hz }
/-- A token is read: all that is old but the parser's block is as it was. -/
theorem PM.advW {F : Nat → Prop} {g p : Nat} {W X : World} {s : St} {o rc : Nat} {pv bv : Value} {vs : List Value} {t : Tok} {r : List Tok} (h : PM F g p W s o rc pv bv vs) (hs : s.ts = t :: r) (hn : t.1 ≠ 5 ∨ t.2.1 ≠ [])
    (hz : W.heap.size ≤ X.heap.size) (hc : ∀ b, b < W.heap.size → b ≠ p → X.heap[b]? = W.heap[b]?) (hp : Blk X p 87 #[.slice (some ⟨g, (o + 1) * 4, none⟩) r.length (rc - 1), pv, bv]) :
    PM F g p X (SrcN.adv s) (o + 1) (rc - 1) pv bv vs := by
  have ha : (SrcN.adv s).ts = r := by unfold SrcN.adv; rw [hs]; rfl
  have hg := h.good
  rw [hs] at hg
  have hl : s.ts.length = r.length + 1 := by rw [hs]; rfl
  refine ⟨fun k hk => Nat.lt_of_lt_of_le (h.dom k hk) hz, h.tok, h.glob.keep (g := g) (fun b hb => hc b (h.dom b (h.tok b hb)) (fun e => h.own (e ▸ h.tok b hb))), h.own, by rw [ha]; exact hp, ?_, by rw [ha]; exact hg.tail hn, by rw [ha]; have := h.cap; omega, fun l => own_keep (h.pown l) (fun b hv => hc b ((h.pown l).lt b hv).2 (h.poff l b hv).2), h.pfew, h.plt, h.poff, fun l => own_keep (h.bown l) (fun b hv => hc b ((h.bown l).lt b hv).2 (h.boff l b hv).2.1), h.bfew, h.boff, h.vlen, ?_⟩
  · intro i u hu j v hv
    rw [ha] at hu
    have h1 := h.toks (i + 1) u (by rw [hs]; simpa using hu) j v hv
    rw [show o + 1 + i = o + (i + 1) by omega]
    exact (World.cell?_of_block (hc g (World.block_lt_of_cell? W _ h1) h.gp)).trans h1
  · intro l i n v h1 h2
    exact (h.args l i n v h1 h2).mono (fun b hb hlt => ⟨hb, hc b hlt hb.2.1⟩) hz
/-- The parser lies there, somehow. -/
def PI (F : Nat → Prop) (g p : Nat) (W : World) (s : St) : Prop := ∃ o rc pv bv vs, PM F g p W s o rc pv bv vs
/-- the blocks that were made between two worlds, and the others. -/
abbrev Mine (F : Nat → Prop) (W W0 : World) : Nat → Prop := fun k => F k ∨ (W.heap.size ≤ k ∧ k < W0.heap.size)
theorem PI.fresh {F : Nat → Prop} {g p : Nat} {W W0 : World} {s : St} (h : PI F g p W s) (hk : Kp W W0) : PI (Mine F W W0) g p W0 s := by
  obtain ⟨o, rc, pv, bv, vs, h⟩ := h
  exact ⟨_, _, _, _, _, h.fresh hk⟩
theorem PI.less {F G : Nat → Prop} {g p : Nat} {W : World} {s : St} (h : PI F g p W s) (hs : ∀ k, G k → F k) (hg : ∀ b, Bs g b → G b) : PI G g p W s := by
  obtain ⟨o, rc, pv, bv, vs, h⟩ := h
  exact ⟨_, _, _, _, _, h.less hs hg⟩
theorem PI.tok {F : Nat → Prop} {g p : Nat} {W : World} {s : St} (h : PI F g p W s) : ∀ b, Bs g b → F b := by
  obtain ⟨o, rc, pv, bv, vs, h⟩ := h
  exact h.tok
/-- From a call that kept one's own blocks: back to the caller's frame, when only own and new blocks were changed since. -/
theorem PI.back {F : Nat → Prop} {g p : Nat} {W W0 W1 W2 : World} {s s' : St} (h0 : PI F g p W s) (hk : Kp W W0) (h : PI (Mine F W W0) g p W1 s') (hke : Keep (Mine F W W0) W0 W1)
    (hz : W1.heap.size ≤ W2.heap.size) (he : W2.os = W1.os ∧ W2.tape = W1.tape ∧ W2.output = W1.output) (hc : ∀ b, b < W1.heap.size → ¬ (W.heap.size ≤ b ∧ b < W0.heap.size) → W2.heap[b]? = W1.heap[b]?) : PI F g p W2 s' ∧ Keep F W W2 := by
  obtain ⟨o, rc, pv, bv, vs, h⟩ := h
  have hd0 : ∀ k, F k → k < W.heap.size := by obtain ⟨o, rc, pv, bv, vs, h0⟩ := h0; exact h0.dom
  have hg : ∀ b, Bs g b → F b := h0.tok
  have hgl : ∀ b, Bs g b → b < W1.heap.size := fun b hb => h.dom b (.inl (hg b hb))
  have hgn : ∀ b, Bs g b → ¬ (W.heap.size ≤ b ∧ b < W0.heap.size) := fun b hb hx => absurd (hd0 b (hg b hb)) (by omega)
  refine ⟨⟨_, _, _, _, _, (h.outer hz (fun b hb hn => hc b hb (fun hx => hn (.inr hx))) (fun b hb => hc b (hgl b hb) (hgn b hb))).less (fun k hk' => .inl hk') hg⟩, ?_⟩
  refine ⟨he.1.trans (hke.os.trans hk.os), he.2.1.trans (hke.tape.trans hk.tape), he.2.2.trans (hke.output.trans hk.output), Nat.le_trans hk.size (Nat.le_trans hke.size hz), fun k hk' => ?_⟩
  have hlt := hd0 k hk'
  exact (hc k (h.dom k (.inl hk')) (fun hx => absurd hlt (by omega))).trans ((hke.block k (.inl hk')).trans (hk.block k hlt))
theorem Blk.kept {G : Nat → Prop} {W W' : World} {b : Nat} {t : TypeId} {cs : Array Value} (h : Blk W b t cs) (hk : Keep G W W') (hb : G b) : Blk W' b t cs := (hk.block b hb).trans h
theorem bnd_some {α β : Type} {m : SrcN.P α} {k : α → SrcN.P β} {s : St} {r : Out β} (h : bnd m k s = some r) : (∃ a e, m s = some (.bad a e) ∧ r = .bad a e) ∨ (∃ a s', m s = some (.ok a s') ∧ k a s' = some r) := by
  unfold bnd at h
  cases hm : m s with
  | none => rw [hm] at h; cases h
  | some x =>
    rw [hm] at h
    cases x with
    | bad a e =>
      injection h with h
      exact .inl ⟨a, e, rfl, h.symm⟩
    | ok a s' => exact .inr ⟨a, s', rfl, h⟩
/-- The panic by which the parser ends at an error. -/
def pan (at' e : Nat) : Ending := .panicked [{ v := .iface 84 (.agg #[.int .i64 (at' : Nat), .int .i64 (e : Nat)]), recovered := false }]
/-- What a part of the parser answers. -/
def Ans' {α : Type} (F : Nat → Prop) (g p : Nat) (val : α → World → Value → Prop) (r : Out α) (W : World) (e : Ending) (W' : World) : Prop :=
  match r with
  | .ok a s => (∃ v, e = .returned v ∧ val a W' v) ∧ PI F g p W' s ∧ Keep F W W'
  | .bad at' n => e = pan at' n ∧ Keep F W W'
end By
end Go.Proofs.YtmflgfojicaecaaGreatDoor
