/- The rows of a file while it is read. No condition. -/
import Derived.Test.YtmflgfojicaecaaGreatDoorSDec
namespace Go.Proofs.YtmflgfojicaecaaGreatDoor
namespace By
open Go.RowKit WireN LexN SrcN
set_option linter.unusedVariables false
set_option linter.unusedSimpArgs false

theorem infoD : (Tryz.prog.info? 38).map (fun i => (i.zero, i.size, i.bytes)) = some (some (.agg #[.int .i64 0, .string ⟨#[]⟩, .slice none 0 0, .slice none 0 0]), 4, 72) := by kernel_rfl
/-- One declaration in a slice of its own, as a step of a region. -/
theorem step_bldD {wx : World} {ops : Array Oper} {o : Oper} {a : Act} {K : Act → World → Prop} {Q : Exit → Act → World → Prop} {E : Prop} (hgd : o.guard = none) (k j : Tmp)
    (ho : o.op = .buildSlice 27 1 #[(0, .tmp j)]) (hdst : o.dst = some k) {u0 : Int} {N : ByteArray} {po bo : Option Addr} {pl pc bl bc : Nat} (hx : a.eval (.tmp j) = .agg #[.int .i64 u0, .string N, .slice po pl pc, .slice bo bl bc])
    (h : ∀ w', w' = wx.alloc (.cells #[.int .i64 u0, .string N, .slice po pl pc, .slice bo bl bc] 38) → K (a.put (some k) (.slice (some ⟨wx.heap.size, 0, none⟩) 1 1)) w') :
    if Region.wanted o (yielded ops a.tmps) = true then Oper.wp Tryz.prog o a wx K Q else E := by
  have hw : Region.wanted o (yielded ops a.tmps) = true := by simp [Region.wanted, hgd]
  rw [if_pos hw]
  have hP := h _ rfl
  unfold Oper.wp
  have hx' : a.tmps[j]?.getD undef = .agg #[.int .i64 u0, .string N, .slice po pl pc, .slice bo bl bc] := by simpa [Act.eval] using hx
  simp [execOp, ho, resolve, hdst, hx', go_sem, Result.andThen]
  exact hP
theorem DcAt.heap {G : Nat → Prop} {W W' : World} {d : Dc} {pv bv : Value} (h : DcAt G W d pv bv) (hb : ∀ b, G b → W'.heap[b]? = W.heap[b]?) (hz : W.heap.size ≤ W'.heap.size) : DcAt G W' d pv bv := by
  obtain ⟨vs, h1, h2, h3⟩ := h.brow
  exact ⟨own_keep h.prow (fun b hv => hb b (h.pin b hv)), h.pin, h.plt, h.pfew, h.bfew, ⟨vs, h1, own_keep h2 (fun b hv => hb b (h.bin b hv)), fun i n v hn hv => (h3 i n v hn hv).mono (fun b hx _ => ⟨hx, hb b hx⟩) hz⟩, h.bin⟩
/-- The declarations of a file so far: their row, and what each of them holds, in blocks of D. -/
structure FR (D : Nat → Prop) (W : World) (v : Value) (ds : List Dc) (xs : List (Value × Value)) : Prop where
  row : DR W v ds xs
  off : ∀ b, v.ownBlock = some b → ¬ D b
  all : ∀ (i : Nat) (d : Dc) (x : Value × Value), ds[i]? = some d → xs[i]? = some x → DcAt D W d x.1 x.2
  dom : ∀ b, D b → b < W.heap.size
theorem FR.nil (W : World) : FR (fun _ => False) W (.slice none 0 0) [] [] where
  row := { own := World.ownsRow_nil _ _ _ _, len := rfl, few := Nat.zero_le _, ok := (fun d h => by simp at h), opn := (fun x h => by simp at h) }
  off := fun _ _ h => h
  all := fun i d x h => by simp at h
  dom := fun _ h => h.elim
theorem FR.kept {D G : Nat → Prop} {W W' : World} {v : Value} {ds : List Dc} {xs : List (Value × Value)} (h : FR D W v ds xs) (hk : Keep G W W') (hs : ∀ b, D b → G b) (hv : ∀ b, v.ownBlock = some b → G b) : FR D W' v ds xs where
  row := h.row.keep (fun b hb => hk.block b (hv b hb))
  off := h.off
  all := fun i d x hd hx => (h.all i d x hd hx).heap (fun b hb => hk.block b (hs b hb)) hk.size
  dom := fun b hb => Nat.lt_of_lt_of_le (h.dom b hb) hk.size
theorem FR.kp {D : Nat → Prop} {W W' : World} {v : Value} {ds : List Dc} {xs : List (Value × Value)} (h : FR D W v ds xs) (hk : Kp W W') : FR D W' v ds xs where
  row := h.row.kp hk
  off := h.off
  all := fun i d x hd hx => (h.all i d x hd hx).heap (fun b hb => hk.block b (h.dom b hb)) hk.size
  dom := fun b hb => Nat.lt_of_lt_of_le (h.dom b hb) hk.size
/-- One more declaration. -/
theorem FR.push {D E : Nat → Prop} {W X : World} {v v' : Value} {ds : List Dc} {xs : List (Value × Value)} {d : Dc} {pv bv : Value} (h : FR D W v ds xs) (hd : DcAt E W d pv bv) (hE : ∀ b, E b → b < W.heap.size)
    (hr : X.ownsRow 0 38 4 v' (ds.length + 1) (dcells ds xs ++ dcell d (pv, bv))) (hlt : Lt d.nm) (hf : ds.length < 64) (hz : W.heap.size ≤ X.heap.size) (hX : ∀ b, D b ∨ E b → X.heap[b]? = W.heap[b]?) (ho : ∀ b, v'.ownBlock = some b → ¬ (D b ∨ E b)) :
    FR (fun b => D b ∨ E b) X v' (ds ++ [d]) (xs ++ [(pv, bv)]) where
  row := {
    own := by
      rw [List.length_append, dcells_snoc ds xs d (pv, bv) h.row.len]
      exact hr
    len := by simp [h.row.len]
    few := by simp; omega
    ok := fun e he => by
      rcases List.mem_append.1 he with he | he
      · exact h.row.ok e he
      · obtain rfl : e = d := by simpa using he
        exact hlt
    opn := fun x hx => by
      rcases List.mem_append.1 hx with hx | hx
      · exact h.row.opn x hx
      · obtain rfl : x = (pv, bv) := by simpa using hx
        obtain ⟨a, b, e1⟩ := row_open hd.prow
        obtain ⟨vs, -, h2, -⟩ := hd.brow
        obtain ⟨a', b', e2⟩ := row_open h2
        exact ⟨a, _, b, a', _, b', by rw [e1, e2]⟩ }
  off := ho
  all := fun i e x he hx => by
    by_cases hi : i < ds.length
    · rw [List.getElem?_append_left hi] at he
      rw [List.getElem?_append_left (by rw [h.row.len]; exact hi)] at hx
      exact ((h.all i e x he hx).mono (fun _ hb => .inl hb)).heap hX hz
    · rw [List.getElem?_append_right (by omega)] at he
      rw [List.getElem?_append_right (by rw [h.row.len]; omega), h.row.len] at hx
      have h0 : i - ds.length = 0 := by
        rcases Nat.eq_zero_or_pos (i - ds.length) with h0 | h0
        · exact h0
        · rw [List.getElem?_eq_none (by simp; omega)] at he; cases he
      rw [h0] at he hx
      obtain rfl : d = e := by simpa using he
      obtain rfl : (pv, bv) = x := by simpa using hx
      exact (hd.mono (fun _ hb => .inr hb)).heap hX hz
  dom := fun b hb => by
    rcases hb with hb | hb
    · exact Nat.lt_of_lt_of_le (h.dom b hb) hz
    · exact Nat.lt_of_lt_of_le (hE b hb) hz
/-- One more import. -/
theorem NR.push {F G : Nat → Prop} {W X : World} {v v' : Value} {ns : List (List Nat)} {T : List Nat} (h : NR F W v ns) (hr : X.ownsRow 0 9 1 v' (ns.length + 1) ((ns.map fun n => Value.string (st n)) ++ [.string (st T)])) (hT : Lt T) (hf : ns.length < 8) (hG : ∀ b, v'.ownBlock = some b → G b) : NR G X v' (ns ++ [T]) where
  own := by
    rw [List.length_append, List.map_append]
    exact hr
  inF := hG
  few := by simp; omega
  ok := fun n hn => by
    rcases List.mem_append.1 hn with hn | hn
    · exact h.ok n hn
    · obtain rfl : n = T := by simpa using hn
      exact hT
end By
end Go.Proofs.YtmflgfojicaecaaGreatDoor

/- What lies in memory while a file is read, round by round. No condition. -/
namespace Go.Proofs.YtmflgfojicaecaaGreatDoor
namespace By
open Go.RowKit WireN LexN SrcN
set_option linter.unusedVariables false
set_option linter.unusedSimpArgs false

theorem imports_zero {β : Type} (pk : List Nat) (im : List (List Nat)) (R : List (List Nat) → SrcN.P β) (s : St) : bnd (imports pk 0 im) R s = none := rfl
theorem imports_step {β : Type} (pk : List Nat) (m : Nat) (im : List (List Nat)) (R : List (List Nat) → SrcN.P β) (s : St) :
    bnd (imports pk (m + 1) im) R s = if isW [105, 109, 112, 111, 114, 116] s then bnd (imported pk im) (fun q => bnd (imports pk m (im ++ [q])) R) s else R im s := by
  unfold bnd
  simp only [imports]
  cases isW [105, 109, 112, 111, 114, 116] s with
  | false => rfl
  | true =>
    simp only [if_true]
    unfold bnd
    cases imported pk im s with
    | none => rfl
    | some o => cases o <;> rfl
theorem decls_zero {β : Type} (n : Nat) (ds : List Dc) (R : List Dc → SrcN.P β) (s : St) : bnd (decls n 0 ds) R s = none := rfl
theorem decls_step {β : Type} (n m : Nat) (ds : List Dc) (R : List Dc → SrcN.P β) (s : St) :
    bnd (decls n (m + 1) ds) R s = if (SrcN.hd s).1 = 5 then R ds s else bnd (decl n ds) (fun d => bnd (decls n m (ds ++ [d])) R) s := by
  unfold bnd
  simp only [decls]
  by_cases h : (SrcN.hd s).1 = 5
  · simp only [h, if_true]
    rfl
  · simp only [h, if_false]
    unfold bnd
    cases decl n ds s with
    | none => rfl
    | some o => cases o <;> rfl
theorem room_lt {t : Tok} {n most : Nat} {s s' : St} {u : Unit} (h : room t n most s = some (.ok u s')) : n < most := by
  unfold SrcN.room at h
  by_cases hm : most ≤ n
  · rw [if_pos hm] at h
    unfold SrcN.fail at h
    injection h with h
    cases h
  · omega
theorem imported_lt {pk : List Nat} {im : List (List Nat)} {s s' : St} {a : List Nat} (h : imported pk im s = some (.ok a s')) : im.length < 8 := by
  unfold imported at h
  rcases bnd_some h with ⟨a, e, hm, he⟩ | ⟨u, s1, hm, -⟩
  · cases he
  · exact room_lt hm
theorem decl_lt {n : Nat} {ds : List Dc} {s s' : St} {d : Dc} (h : decl n ds s = some (.ok d s')) : ds.length < 64 := by
  unfold decl at h
  rcases bnd_some h with ⟨a, e, hm, he⟩ | ⟨k, s1, hm, hk⟩
  · cases he
  · rcases bnd_some hk with ⟨a, e, hm2, he⟩ | ⟨u, s2, hm2, -⟩
    · cases he
    · exact room_lt hm2
/-- While the imports are read. -/
structure F1 (F0 G : Nat → Prop) (g p fb : Nat) (T : ByteArray) (W : World) (s : St) (im : List (List Nat)) (iv : Value) : Prop where
  pi : PI G g p W s
  fbk : Blk W fb 29 #[.string T, iv, .slice none 0 0]
  row : NR G W iv im
  nof : ∀ b, iv.ownBlock = some b → ¬ F0 b ∧ b ≠ fb
  inG : G fb ∧ ¬ F0 fb
  sub : ∀ k, F0 k → G k
  bs : ∀ b, Bs g b → F0 b
theorem F1.keep {F0 G : Nat → Prop} {g p fb : Nat} {T : ByteArray} {W W' : World} {s s' : St} {im : List (List Nat)} {iv : Value} (h : F1 F0 G g p fb T W s im iv) (hk : Keep G W W') (hp : PI G g p W' s') : F1 F0 G g p fb T W' s' im iv :=
  ⟨hp, h.fbk.kept hk h.inG.1, h.row.kept hk (fun _ h => h), h.nof, h.inG, h.sub, h.bs⟩
theorem F1.kp {F0 G : Nat → Prop} {g p fb : Nat} {T : ByteArray} {W W' : World} {s : St} {im : List (List Nat)} {iv : Value} (h : F1 F0 G g p fb T W s im iv) (hk : Kp W W') : F1 F0 G g p fb T W' s im iv :=
  ⟨h.pi.kp hk, h.fbk.keep hk, h.row.kp hk, h.nof, h.inG, h.sub, h.bs⟩
/-- One more import: the row has grown and its new place is stored. -/
theorem F1.push {F0 G : Nat → Prop} {g p fb il : Nat} {T : ByteArray} {W5 W6 W7 X : World} {s : St} {im : List (List Nat)} {iv v7 : Value} {N : List Nat} (h : F1 F0 G g p fb T W5 s im iv) (hil : il = im.length) (hlt : il < 8) (hN : Lt N)
    (e : W6 = W5.alloc (.cells #[.string (st N)] 9)) (r7 : W7.ownsRow 0 9 1 v7 (il + 1) ((im.map fun n => Value.string (st n)) ++ [.string (st N)])) (g7 : W6.grownBy W7 iv.ownBlock)
    (h7 : v7.ownBlock = iv.ownBlock ∨ v7.ownBlock = some W6.heap.size) (hX : X = W7.setCell ⟨fb, 1, none⟩ v7) :
    (∃ G', F1 F0 G' g p fb T X s (im ++ [N]) v7) ∧ Keep F0 W5 X := by
  subst hil
  have k6 : Kp W5 W6 := by rw [e]; exact kp_alloc W5 _
  have hz6 : W6.heap.size = W5.heap.size + 1 := by rw [e]; simp
  have ox : Only fb W7 X := by rw [hX]; exact (Only.refl _ W7).set 1 _
  have hz : W5.heap.size ≤ X.heap.size := by have := g7.size; have := ox.size; omega
  have hdG : ∀ b, G b → b < W5.heap.size := fun b hb => by obtain ⟨_, _, _, _, _, hp⟩ := h.pi; exact hp.dom b hb
  have hc : ∀ b, b < W5.heap.size → b ≠ fb → iv.ownBlock ≠ some b → X.heap[b]? = W5.heap[b]? := fun b hb h1 h2 => (ox.block b h1).trans ((g7.block b (by omega) (fun e => h2 e.symm)).trans (k6.block b hb))
  have hcF : ∀ b, F0 b → X.heap[b]? = W5.heap[b]? := fun b hb => hc b (hdG b (h.sub b hb)) (fun e => h.inG.2 (e ▸ hb)) (fun e => (h.nof b e).1 hb)
  have hnew : ∀ b, v7.ownBlock = some b → iv.ownBlock = some b ∨ b = W6.heap.size := fun b hb => by
    rcases h7 with h7 | h7
    · exact .inl (h7 ▸ hb)
    · rw [h7] at hb; injection hb with hb; exact .inr hb.symm
  have hlt7 : ∀ b, v7.ownBlock = some b → b < X.heap.size := fun b hb => by have := (r7.lt b hb).2; have := ox.size; omega
  have hfb := hdG _ h.inG.1
  obtain ⟨o, rc, pv, bv, vs, hpm⟩ := h.pi
  have hpm' := hpm.wide hz (fun b hb hn => hc b hb (fun e => hn (e ▸ h.inG.1)) (fun e => hn (h.row.inF b e))) (fun b hb => hcF b (h.bs b hb))
  have b7 : Blk W7 fb 29 #[.string T, iv, .slice none 0 0] := by
    have b6 := h.fbk.keep k6
    exact (g7.block fb b6.lt (fun e => (h.nof fb e.symm).2 rfl)).trans b6
  have rX := own_keep r7 (W' := X) (fun b hb => ox.block b (fun e => by
    subst e
    rcases hnew _ hb with hb | hb
    · exact (h.nof _ hb).2 rfl
    · omega))
  refine ⟨⟨_, ⟨_, _, _, _, _, hpm'⟩, by rw [hX]; exact b7.set 1 _, ?_, ?_, ⟨.inl h.inG.1, h.inG.2⟩, fun k hk => .inl (h.sub k hk), h.bs⟩, ?_⟩
  · refine NR.push h.row rX hN hlt (fun b hb => ?_)
    rcases hnew b hb with h1 | h1
    · exact .inl (h.row.inF b h1)
    · exact .inr ⟨by omega, hlt7 b hb⟩
  · intro b hb
    rcases hnew b hb with h1 | h1
    · exact h.nof b h1
    · exact ⟨fun hf => by have := hdG b (h.sub b hf); omega, by omega⟩
  · exact ⟨ox.os.trans (g7.os.trans k6.os), ox.tape.trans (g7.tape.trans k6.tape), ox.output.trans (g7.output.trans k6.output), hz, hcF⟩
/-- While the declarations are read. -/
structure F2 (F0 G D : Nat → Prop) (g p fb : Nat) (T : ByteArray) (im : List (List Nat)) (iv : Value) (W : World) (s : St) (ds : List Dc) (xs : List (Value × Value)) (dv : Value) : Prop where
  pi : PI G g p W s
  fbk : Blk W fb 29 #[.string T, iv, dv]
  row : NR (fun b => G b ∧ ¬ F0 b ∧ b ≠ fb ∧ ¬ D b) W iv im
  decs : FR D W dv ds xs
  dsub : ∀ b, D b → G b ∧ ¬ F0 b ∧ b ≠ fb
  dvG : ∀ b, dv.ownBlock = some b → G b ∧ ¬ F0 b ∧ b ≠ fb ∧ iv.ownBlock ≠ some b
  inG : G fb ∧ ¬ F0 fb
  sub : ∀ k, F0 k → G k
  bs : ∀ b, Bs g b → F0 b
theorem F1.two {F0 G : Nat → Prop} {g p fb : Nat} {T : ByteArray} {W : World} {s : St} {im : List (List Nat)} {iv : Value} (h : F1 F0 G g p fb T W s im iv) : F2 F0 G (fun _ => False) g p fb T im iv W s [] [] (.slice none 0 0) :=
  ⟨h.pi, h.fbk, ⟨h.row.own, fun b hb => ⟨h.row.inF b hb, (h.nof b hb).1, (h.nof b hb).2, fun x => x⟩, h.row.few, h.row.ok⟩, FR.nil W, fun b hb => hb.elim, fun b hb => by simp [Value.ownBlock] at hb, h.inG, h.sub, h.bs⟩
theorem F2.keep {F0 G D : Nat → Prop} {g p fb : Nat} {T : ByteArray} {im : List (List Nat)} {iv : Value} {W W' : World} {s s' : St} {ds : List Dc} {xs : List (Value × Value)} {dv : Value} (h : F2 F0 G D g p fb T im iv W s ds xs dv) (hk : Keep G W W') (hp : PI G g p W' s') : F2 F0 G D g p fb T im iv W' s' ds xs dv :=
  ⟨hp, h.fbk.kept hk h.inG.1, ⟨own_keep h.row.own (fun b hb => hk.block b (h.row.inF b hb).1), h.row.inF, h.row.few, h.row.ok⟩, h.decs.kept hk (fun b hb => (h.dsub b hb).1) (fun b hb => (h.dvG b hb).1), h.dsub, h.dvG, h.inG, h.sub, h.bs⟩
theorem F2.kp {F0 G D : Nat → Prop} {g p fb : Nat} {T : ByteArray} {im : List (List Nat)} {iv : Value} {W W' : World} {s : St} {ds : List Dc} {xs : List (Value × Value)} {dv : Value} (h : F2 F0 G D g p fb T im iv W s ds xs dv) (hk : Kp W W') : F2 F0 G D g p fb T im iv W' s ds xs dv :=
  ⟨h.pi.kp hk, h.fbk.keep hk, h.row.kp hk, h.decs.kp hk, h.dsub, h.dvG, h.inG, h.sub, h.bs⟩
/-- A wider frame, and a declaration that lies in it. -/
theorem F2.push {F0 G G' D E : Nat → Prop} {g p fb dl : Nat} {T : ByteArray} {im : List (List Nat)} {iv dv v7 : Value} {W5 W6 W7 X : World} {s s' : St} {ds : List Dc} {xs : List (Value × Value)} {d : Dc} {po bo : Option Addr} {pl pc bl bc : Nat}
    (h : F2 F0 G D g p fb T im iv W5 s ds xs dv) (hG : ∀ k, G k → G' k) (hp : PI G' g p W5 s') (hdl : dl = ds.length) (hlt : dl < 64) (hd : DcAt E W5 d (.slice po pl pc) (.slice bo bl bc)) (hE : ∀ b, E b → G' b ∧ ¬ G b ∧ b < W5.heap.size) (hN : Lt d.nm)
    (e : W6 = W5.alloc (.cells #[.int .i64 (d.k : Nat), .string (st d.nm), .slice po pl pc, .slice bo bl bc] 38)) (r7 : W7.ownsRow 0 38 4 v7 (dl + 1) (dcells ds xs ++ dcell d (.slice po pl pc, .slice bo bl bc))) (g7 : W6.grownBy W7 dv.ownBlock)
    (h7 : v7.ownBlock = dv.ownBlock ∨ v7.ownBlock = some W6.heap.size) (hX : X = W7.setCell ⟨fb, 2, none⟩ v7) :
    (∃ G2 D2, F2 F0 G2 D2 g p fb T im iv X s' (ds ++ [d]) (xs ++ [(.slice po pl pc, .slice bo bl bc)]) v7) ∧ Keep F0 W5 X := by
  subst hdl
  have k6 : Kp W5 W6 := by rw [e]; exact kp_alloc W5 _
  have hz6 : W6.heap.size = W5.heap.size + 1 := by rw [e]; simp
  have ox : Only fb W7 X := by rw [hX]; exact (Only.refl _ W7).set 2 _
  have hz : W5.heap.size ≤ X.heap.size := by have := g7.size; have := ox.size; omega
  have hdG : ∀ b, G' b → b < W5.heap.size := fun b hb => by obtain ⟨_, _, _, _, _, hp⟩ := hp; exact hp.dom b hb
  have hc : ∀ b, b < W5.heap.size → b ≠ fb → dv.ownBlock ≠ some b → X.heap[b]? = W5.heap[b]? := fun b hb h1 h2 => (ox.block b h1).trans ((g7.block b (by omega) (fun e => h2 e.symm)).trans (k6.block b hb))
  have hcF : ∀ b, F0 b → X.heap[b]? = W5.heap[b]? := fun b hb => hc b (hdG b (hG b (h.sub b hb))) (fun e => h.inG.2 (e ▸ hb)) (fun e => (h.dvG b e).2.1 hb)
  have hcD : ∀ b, D b ∨ E b → X.heap[b]? = W5.heap[b]? := fun b hb => by
    rcases hb with hb | hb
    · exact hc b (hdG b (hG b (h.dsub b hb).1)) (h.dsub b hb).2.2 (fun e => h.decs.off b e hb)
    · exact hc b (hE b hb).2.2 (fun e => (hE b hb).2.1 (e ▸ h.inG.1)) (fun e => (hE b hb).2.1 (h.dvG b e).1)
  have hnew : ∀ b, v7.ownBlock = some b → dv.ownBlock = some b ∨ b = W6.heap.size := fun b hb => by
    rcases h7 with h7 | h7
    · exact .inl (h7 ▸ hb)
    · rw [h7] at hb; injection hb with hb; exact .inr hb.symm
  have hlt7 : ∀ b, v7.ownBlock = some b → b < X.heap.size := fun b hb => by have := (r7.lt b hb).2; have := ox.size; omega
  have hfb := hdG _ (hG _ h.inG.1)
  obtain ⟨o, rc, pv, bv, vs, hpm⟩ := hp
  have hpm' := hpm.wide hz (fun b hb hn => hc b hb (fun e => hn (hG _ (e ▸ h.inG.1))) (fun e => hn (hG _ (h.dvG b e).1))) (fun b hb => hcF b (h.bs b hb))
  have b7 : Blk W7 fb 29 #[.string T, iv, dv] := by
    have b6 := h.fbk.keep k6
    exact (g7.block fb b6.lt (fun e => (h.dvG fb e.symm).2.2.1 rfl)).trans b6
  have rX := own_keep r7 (W' := X) (fun b hb => ox.block b (fun e => by
    subst e
    rcases hnew _ hb with hb | hb
    · exact (h.dvG _ hb).2.2.1 rfl
    · omega))
  have hiv : ∀ b, iv.ownBlock = some b → dv.ownBlock ≠ some b := fun b hb e => (h.dvG b e).2.2.2 hb
  refine ⟨⟨_, fun b => D b ∨ E b, ⟨_, _, _, _, _, hpm'⟩, by rw [hX]; exact b7.set 2 _, ?_, ?_, ?_, ?_, ⟨.inl (hG _ h.inG.1), h.inG.2⟩, fun k hk => .inl (hG _ (h.sub k hk)), h.bs⟩, ?_⟩
  · refine ⟨own_keep h.row.own (fun b hb => ?_), fun b hb => ?_, h.row.few, h.row.ok⟩
    · have h1 := h.row.inF b hb
      exact hc b (hdG b (hG b h1.1)) h1.2.2.1 (hiv b hb)
    · have h1 := h.row.inF b hb
      refine ⟨.inl (hG b h1.1), h1.2.1, h1.2.2.1, fun hx => ?_⟩
      rcases hx with hx | hx
      · exact h1.2.2.2 hx
      · exact (hE b hx).2.1 h1.1
  · refine FR.push h.decs hd (fun b hb => (hE b hb).2.2) rX hN hlt hz hcD (fun b hb hx => ?_)
    rcases hnew b hb with h1 | h1
    · rcases hx with hx | hx
      · exact h.decs.off b h1 hx
      · exact (hE b hx).2.1 (h.dvG b h1).1
    · rcases hx with hx | hx
      · have := hdG b (hG b (h.dsub b hx).1); omega
      · have := (hE b hx).2.2; omega
  · intro b hb
    rcases hb with hb | hb
    · have h1 := h.dsub b hb
      exact ⟨.inl (hG b h1.1), h1.2⟩
    · have h1 := hE b hb
      exact ⟨.inl h1.1, fun hf => h1.2.1 (h.sub b hf), fun e => h1.2.1 (e ▸ h.inG.1)⟩
  · intro b hb
    rcases hnew b hb with h1 | h1
    · have h2 := h.dvG b h1
      exact ⟨.inl (hG b h2.1), h2.2⟩
    · refine ⟨.inr ⟨by omega, hlt7 b hb⟩, fun hf => by have := hdG b (hG b (h.sub b hf)); omega, by omega, fun e => ?_⟩
      have := hdG b (hG b (h.row.inF b e).1)
      omega
  · exact ⟨ox.os.trans (g7.os.trans k6.os), ox.tape.trans (g7.tape.trans k6.tape), ox.output.trans (g7.output.trans k6.output), hz, hcF⟩
/-- A source that was read, in memory that is none of F. -/
structure SrcAt (F : Nat → Prop) (W : World) (f : Src) (iv dv : Value) (xs : List (Value × Value)) : Prop where
  ex : ∃ D : Nat → Prop, NR (fun b => ¬ F b ∧ ¬ D b) W iv f.im ∧ FR D W dv f.dc xs ∧ (∀ b, D b → ¬ F b) ∧ ∀ b, dv.ownBlock = some b → ¬ F b ∧ iv.ownBlock ≠ some b
  lt : Lt f.pk ∧ f.pk.length ≤ 100000
/-- What the parser's file answers. -/
def AnsF (F : Nat → Prop) (r : Out Src) (W : World) (e : Ending) (W' : World) : Prop :=
  match r with
  | .ok f s => ∃ (iv dv : Value) (xs : List (Value × Value)), e = .returned (.agg #[.string (st f.pk), iv, dv]) ∧ SrcAt F W' f iv dv xs ∧ Keep F W W'
  | .bad at' n => e = pan at' n ∧ Keep F W W'
end By
end Go.Proofs.YtmflgfojicaecaaGreatDoor
