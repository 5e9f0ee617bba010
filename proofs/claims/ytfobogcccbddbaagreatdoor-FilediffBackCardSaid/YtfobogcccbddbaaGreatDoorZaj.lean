/- What every row of this seat needs: an argument that reads as a slice of bytes is one, a law that only reads leaves its arguments. No condition. -/
import Derived.Test.YtfobogcccbddbaaGreatDoorZab
import Derived.Test.YtfobogcccbddbaaGreatDoorCards
import Derived.Test.YtfobogcccbddbaaGreatDoorTie
import Derived.ProofKit
import Derived.OpenShut
import Derived.SizedLaws
import Derived.Carry
import Derived.LaidSub
import Derived.Lay
import Derived.Deep.DeepHandedRow
import Derived.Test.YtfobogcccbddbaaGreatDoorZba
import Derived.Test.YtfobogcccbddbaaGreatDoorRvX
namespace Go.Proofs.YtfobogcccbddbaaGreatDoor
namespace By
open Go.RowKit Go.ChangeShapes Go.WideShapes WireN
set_option linter.unusedVariables false
set_option linter.unusedSimpArgs false

theorem own : ownKnob Tryz.prog.godebug = none := by kernel_rfl
theorem laidOut : laidOutB Tryz.prog = true := by kernel_rfl
theorem cells8 : Tryz.prog.cellsOf 5 = 1 := by kernel_rfl
theorem bytes8 : Tryz.prog.bytesOf 5 = 1 := by kernel_rfl

set_option maxRecDepth 100000 in
/-- An argument that is a slice of bytes. -/
theorem sl_open {H : Type} {enc : TypeId × Value → H} {W : World} {b0 : Nat} {r : Reach} {t : TypeId} {v : Value} {d : DataW H} {ps : List MemPlace} (ht : Tryz.prog.underlying t = some (.slice 5))
    (hval : Value.okWide Tryz.prog W r b0 t v) (hd : DataW.Trod enc Tryz.prog W 0 (fun _ => true) true t v d ps)
    (hz : ∀ e s, d = .slice e s → (e.length + s.length) * Tryz.prog.bytesOf 5 ≤ reachBytes) : ∃ xs, Sl W v xs := by
  obtain ⟨a0, l0, c0, rfl⟩ := Go.WideShapes.okWide_slice (P := Tryz.prog) (e := 5) ht hval
  obtain ⟨fuel, hf⟩ := hd
  rcases open_ints ht Tryz.underlying5 cells8 hf with ⟨e, -⟩ | ⟨a, len, cap, zs, e, -, hl, hm, hzl, ex, hc, hw⟩
  · simp only [Value.cells, List.cons.injEq, Value.slice.injEq, and_true] at e
    obtain ⟨rfl, rfl, rfl⟩ := e
    exact ⟨[], Sl.nil W⟩
  · simp only [Value.cells, List.cons.injEq, Value.slice.injEq, and_true] at e
    obtain ⟨rfl, rfl, rfl⟩ := e
    simp only [if_true] at hzl
    have hd : d = .slice (lits .u8 (zs.take l0)) (lits .u8 (zs.drop l0)) := congrArg Prod.fst ex
    have h4 := hz _ _ hd
    rw [bytes8] at h4
    have hlen : (lits (H := H) .u8 (zs.take l0)).length + (lits (H := H) .u8 (zs.drop l0)).length = zs.length := by
      simp [lits]; omega
    rw [hlen] at h4
    unfold reachBytes at h4
    have hn : ((zs.take l0).map Int.toNat).length = l0 := by simp; omega
    refine ⟨(zs.take l0).map Int.toNat, ⟨some a, c0, by rw [hn], by omega, hm, ?_, fun h => by simp at h⟩, ?_, by omega⟩
    · by_cases h0 : l0 = 0
      · subst h0; exact .inl (by simp)
      · obtain ⟨b, off, spot⟩ := a
        have hs : spot = none := by
          have h1 := hc 0 (by omega)
          unfold Addr.add at h1
          rw [if_pos rfl] at h1
          unfold World.cell? at h1
          split at h1
          · cases spot with
            | none => rfl
            | some s => simp at h1
          · simp at h1
        subst hs
        refine .inr ⟨b, off, rfl, fun i hi => ?_⟩
        rw [hn] at hi
        have h1 := hc i (by omega)
        have h2 : (⟨b, off, none⟩ : Addr).add i = ⟨b, off + i, none⟩ := by
          unfold Addr.add
          by_cases hi0 : i = 0
          · subst hi0; rfl
          · rw [if_neg hi0]
        rw [h2] at h1
        rw [h1]
        have hi' : i < zs.length := by omega
        have hb := bounds_u8 (hw (zs[i]) (List.getElem_mem hi'))
        have e1 : zs.getD i 0 = zs[i] := by simp [List.getD, hi']
        have e2 : (List.map Int.toNat (List.take l0 zs))[i]?.getD 0 = (zs[i]).toNat := by
          simp [hi, List.getElem?_eq_getElem hi']
        rw [e1, e2, Int.toNat_of_nonneg hb.1]
    · intro x
      by_cases hx : x < ((zs.take l0).map Int.toNat).length
      · rw [List.getElem?_eq_getElem hx, Option.getD_some]
        obtain ⟨z, hz, hzx⟩ := List.mem_map.1 (List.getElem_mem hx)
        rw [← hzx]
        have hb := bounds_u8 (hw z (List.mem_of_mem_take hz))
        omega
      · rw [List.getElem?_eq_none (by omega)]; decide

theorem cellsI : Tryz.prog.cellsOf 3 = 1 := by kernel_rfl
theorem bytesI : Tryz.prog.bytesOf 3 = 8 := by kernel_rfl
set_option maxRecDepth 100000 in
/-- An argument that is a slice of integers. -/
theorem sli_open {H : Type} {enc : TypeId × Value → H} {W : World} {b0 : Nat} {r : Reach} {t : TypeId} {v : Value} {d : DataW H} {ps : List MemPlace} (ht : Tryz.prog.underlying t = some (.slice 3))
    (hval : Value.okWide Tryz.prog W r b0 t v) (hd : DataW.Trod enc Tryz.prog W 0 (fun _ => true) true t v d ps)
    (hz : ∀ e s, d = .slice e s → (e.length + s.length) * Tryz.prog.bytesOf 3 ≤ reachBytes) : ∃ zs, SlI W v zs := by
  obtain ⟨a0, l0, c0, rfl⟩ := Go.WideShapes.okWide_slice (P := Tryz.prog) (e := 3) ht hval
  obtain ⟨fuel, hf⟩ := hd
  rcases open_ints ht Tryz.underlying3 cellsI hf with ⟨e, -⟩ | ⟨a, len, cap, zs, e, -, hl, hm, hzl, ex, hc, hw⟩
  · simp only [Value.cells, List.cons.injEq, Value.slice.injEq, and_true] at e
    obtain ⟨rfl, rfl, rfl⟩ := e
    exact ⟨[], ⟨none, 0, rfl, Nat.le_refl _, Nat.zero_le _, .inl rfl⟩, fun i => by simp, by simp⟩
  · simp only [Value.cells, List.cons.injEq, Value.slice.injEq, and_true] at e
    obtain ⟨rfl, rfl, rfl⟩ := e
    simp only [if_true] at hzl
    have hd : d = .slice (lits .i64 (zs.take l0)) (lits .i64 (zs.drop l0)) := congrArg Prod.fst ex
    have h4 := hz _ _ hd
    rw [bytesI] at h4
    have hlen : (lits (H := H) .i64 (zs.take l0)).length + (lits (H := H) .i64 (zs.drop l0)).length = zs.length := by
      simp [lits]; omega
    rw [hlen] at h4
    unfold reachBytes at h4
    have hn : (zs.take l0).length = l0 := by simp; omega
    refine ⟨zs.take l0, ⟨some a, c0, by rw [hn], by omega, hm, ?_⟩, ?_, by omega⟩
    · by_cases h0 : l0 = 0
      · subst h0; exact .inl (by simp)
      · obtain ⟨b, off, spot⟩ := a
        have hs : spot = none := by
          have h1 := hc 0 (by omega)
          unfold Addr.add at h1
          rw [if_pos rfl] at h1
          unfold World.cell? at h1
          split at h1
          · cases spot with
            | none => rfl
            | some s => simp at h1
          · simp at h1
        subst hs
        refine .inr ⟨b, off, rfl, fun i hi => ?_⟩
        rw [hn] at hi
        have h1 := hc i (by omega)
        rw [Addr_add] at h1
        rw [h1]
        have hi' : i < zs.length := by omega
        have e1 : zs.getD i 0 = zs[i] := by simp [List.getD, hi']
        have e2 : (List.take l0 zs)[i]?.getD 0 = zs[i] := by simp [hi, List.getElem?_eq_getElem hi']
        rw [e1, e2]
    · intro x
      by_cases hx : x < (zs.take l0).length
      · rw [List.getElem?_eq_getElem hx, Option.getD_some]
        exact bounds_i64 (hw _ (List.mem_of_mem_take (List.getElem_mem hx)))
      · rw [List.getElem?_eq_none (by omega)]; decide

/-- Arguments that were there before read behind the call as they did. -/
theorem trodAll_stays {H : Type} {enc : TypeId × Value → H} {W W' : World} (hb : Kp W W') {sp : Nat → Bool} : ∀ {ts : List TypeId} {vs : List Value} {ds : List (DataW H)} {ps : List MemPlace},
    (∀ t ∈ ts, Tryz.prog.readableRec t = true ∧ t < Tryz.prog.types.size) → DataW.TrodAll enc Tryz.prog W 0 (fun _ => true) true ts vs ds ps → (∀ x ∈ ps, x.block < W.heap.size) → (∀ x ∈ ps, sp x.block = true) →
    DataW.TrodAll enc Tryz.prog W' 0 sp true ts vs ds ps
  | [], _, _, _, _, h, _, _ => by
    obtain ⟨rfl, rfl, rfl⟩ := trodAll_nil h
    exact trodAll_mk0
  | t :: ts, _, _, _, ht, h, hlt, hs => by
    obtain ⟨v, vs1, d, ds1, a, b, rfl, rfl, rfl, h1, h2⟩ := trodAll_cons h
    refine ⟨a, b, WideElems.Trod_stays laidOut (ht t (by simp)).1 (ht t (by simp)).2 h1 (fun x hx => hb.same (hlt x (by simp [hx]))) (fun x hx => hs x (by simp [hx])),
      trodAll_stays hb (fun t h => ht t (by simp [h])) h2 (fun x hx => hlt x (by simp [hx])) (fun x hx => hs x (by simp [hx])), rfl⟩

set_option maxRecDepth 100000 in
/-- A law that returns true and leaves what was there: its row's condition after the call. -/
theorem true_post {H : Type} {enc : TypeId × Value → H} {f : Func} {s : ChangeSpec} {apart fresh handsOn again : Bool} {W W' : World} {args : Array Value} {ds gs : List (DataW H)} {before : List MemPlace}
    (hW : DataW.Whole enc Tryz.prog f.params.toList s.vars apart W args.toList ds gs before) (hv : s.vars = []) (hr : f.resultTypes = #[4])
    (hs : (s.fn H (ds ++ gs)).results = [.lit (.bool true)]) (ha : (s.fn H (ds ++ gs)).args = ds) (hvs : (s.fn H (ds ++ gs)).vars = [])
    (ht : ∀ t ∈ f.params.toList, Tryz.prog.readableRec t = true ∧ t < Tryz.prog.types.size) (hb : Kp W W') :
    s.post enc Tryz.prog f apart fresh handsOn again W args (.bool true) W' := by
  have hlt : ∀ p ∈ before, p.block < W.heap.size := fun p hp => hW.lt p hp
  have hW' := hW
  obtain ⟨p, q, hA, hV, rfl, hz, hn⟩ := hW
  rw [hv] at hV
  obtain ⟨rfl, rfl⟩ := trodVars_none hV
  simp only [List.append_nil] at *
  have hres : ∀ (b : Nat) (sp : Nat → Bool) (hd : Bool), DataW.TrodAll enc Tryz.prog W' b sp hd f.resultTypes.toList ((Value.bool true).resultList f.resultTypes.size) (s.fn H ds).results [] := by
    intro b sp hd
    rw [hr, hs]
    exact trodAll_cons_mk (shut_bool Tryz.underlying4 _) trodAll_mk0
  have hargs : ∀ sp : Nat → Bool, (∀ x ∈ p, sp x.block = true) → DataW.TrodAll enc Tryz.prog W' 0 sp true f.params.toList args.toList (s.fn H ds).args p := by
    intro sp hsp
    rw [ha]
    exact trodAll_stays hb ht hA hlt hsp
  have hvars : ∀ sp : Nat → Bool, DataW.TrodVars enc Tryz.prog W' sp s.vars (s.fn H ds).vars [] := by
    intro sp
    rw [hv, hvs]
    exact rfl
  have hold : ∀ x ∈ p, (fun b => decide (b < W.heap.size)) x.block = true := fun x hx => by simpa using hlt x hx
  refine ⟨ds, [], p, [], p, [], hW', by simpa using hres _ _ _, by simpa using hargs _ hold, by simpa using hvars _, World.keptBut_mono (fun x hx => ⟨hx, ?_⟩) (hb.frame (· ∈ p)), fun _ => ?_⟩
  · simpa using hx
  · refine ⟨ok_one hr rfl (Go.RowKit.okWide_bool_mk (P := Tryz.prog) (t := 4) Tryz.underlying4 true), _, _, ([] ++ p) ++ [], ⟨[] ++ p, [], trodAll_append (hargs _ (fun _ _ => rfl)) (hres _ _ _), hvars _, rfl, ?_, ?_⟩, ?_⟩
    · intro b off hp
      have hin : MemPlace.cell b off ∈ p := by simpa using hp
      rw [hb.frozen (hlt _ hin)]
      exact hz b off hin
    · intro h
      simpa using hn h
    · intro x hx _
      simpa using hx
end By
end Go.Proofs.YtfobogcccbddbaaGreatDoor

/- A revision that is handed reads as files. No condition. -/
namespace Go.Proofs.YtfobogcccbddbaaGreatDoor
namespace By
open Go.RowKit Go.ChangeShapes Go.WideShapes WireN LexN RevN
set_option linter.unusedVariables false
set_option linter.unusedSimpArgs false

theorem cellsFile : Tryz.prog.cellsOf 53 = 2 := by kernel_rfl
theorem cellsS : Tryz.prog.cellsOf 9 = 1 := by kernel_rfl
theorem cellsFs : Tryz.prog.cellsOf 23 = 1 := by kernel_rfl
theorem cellsRv : Tryz.prog.cellsOf 25 = 1 := by kernel_rfl
theorem spot_none {w : World} {b off : Nat} {sp : Option Nat} {v : Value} (h : w.cell? ⟨b, off, sp⟩ = some v) : sp = none := by
  unfold World.cell? at h
  split at h
  · cases sp with
    | none => rfl
    | some s => simp at h
  · simp at h
set_option maxRecDepth 100000 in
/-- A file's two cells. -/
theorem file_cells {H : Type} {enc : TypeId × Value → H} {W : World} {base : Nat} {spare : Nat → Bool} {held : Bool} {n : Nat} {a : Addr} {y : DataW H × List MemPlace}
    (h : (W.cells? base a 2).bind (DataW.trod enc Tryz.prog W base spare held n 53) = some y) :
    ∃ s t : ByteArray, W.cell? a = some (.string s) ∧ W.cell? (a.add 1) = some (.string t) ∧ s.size ≤ maxLen ∧ t.size ≤ maxLen := by
  obtain ⟨cs, hcs, hy⟩ := Option.bind_eq_some_iff.1 h
  obtain ⟨hb, hl, hc⟩ := World.cells?_some hcs
  obtain ⟨y0, y1, m, -, -, h0, h1⟩ := trod_struct2 Tryz.underlying53 hy
  rw [cellsS] at h0 h1
  match cs, hl with
  | [u, v], _ =>
    simp only [List.drop_zero, List.drop_succ_cons, List.take_succ_cons, List.take_zero] at h0 h1
    obtain ⟨s, e1, -, hs⟩ := DataW.trod_string Tryz.underlying9 h0
    obtain ⟨t, e2, -, ht⟩ := DataW.trod_string Tryz.underlying9 h1
    simp only [List.cons.injEq, and_true] at e1 e2
    subst e1 e2
    refine ⟨s, t, ?_, ?_, hs, ht⟩
    · have := hc 0 (by omega)
      simpa [Addr.add] using this
    · have := hc 1 (by omega)
      simpa using this
set_option maxRecDepth 100000 in
/-- An argument that is a revision. -/
theorem rev_open {H : Type} {enc : TypeId × Value → H} {W : World} {b0 : Nat} {r : Reach} {v : Value} {d : DataW H} {ps : List MemPlace}
    (hval : Value.okWide Tryz.prog W r b0 25 v) (hd : DataW.Trod enc Tryz.prog W 0 (fun _ => true) true 25 v d ps) : ∃ u fs, v = .agg #[u] ∧ Rw W u fs := by
  obtain ⟨cs, rfl, hsz⟩ := Go.WideShapes.okWide_struct (P := Tryz.prog) Tryz.underlying25 hval
  obtain ⟨fuel, hf⟩ := hd
  obtain ⟨y0, n, -, hlen, h0⟩ := trod_struct1 Tryz.underlying25 hf
  rw [cellsRv] at hsz
  obtain ⟨u, rfl⟩ : ∃ u, cs = #[u] := by
    match cs, hsz with
    | ⟨[u]⟩, _ => exact ⟨u, rfl⟩
  rw [cellsFs] at h0
  simp only [Value.cells, List.drop_zero, List.take_succ_cons, List.take_zero] at h0
  rcases DataW.trod_slice Tryz.underlying23 h0 with ⟨e, -⟩ | ⟨a, len, cap, elems, rest, m, -, e, -, -, hl, hm, hel, hc, -, -⟩
  · simp only [List.cons.injEq, and_true] at e
    subst e
    exact ⟨_, [], rfl, Rw.nil W⟩
  · simp only [List.cons.injEq, and_true] at e
    subst e
    rw [cellsFile] at hc
    have hex : ∀ k, k ≤ len → ∃ fs : List Fl, fs.length = k ∧ (∀ f ∈ fs, (Lt f.1 ∧ Lt f.2) ∧ (f.1.length ≤ maxLen ∧ f.2.length ≤ maxLen)) ∧
        ∀ (j : Nat) (f : Fl), fs[j]? = some f → W.cell? (a.add (j * 2)) = some (.string (st f.1)) ∧ W.cell? ((a.add (j * 2)).add 1) = some (.string (st f.2)) := by
      intro k
      induction k with
      | zero => exact fun _ => ⟨[], rfl, fun f h => by simp at h, fun j f h => by simp at h⟩
      | succ k ih =>
        intro hk
        obtain ⟨fs, h1, h2, h3⟩ := ih (by omega)
        have h4 := hc k (by omega)
        obtain ⟨y, hy⟩ : ∃ y, elems[k]? = some y := ⟨_, List.getElem?_eq_getElem (by omega)⟩
        rw [hy] at h4
        obtain ⟨s, t, c0, c1, hs, ht⟩ := file_cells h4
        refine ⟨fs ++ [(bs s, bs t)], by simp [h1], fun f hf => ?_, fun j f hf => ?_⟩
        · rcases List.mem_append.1 hf with hf | hf
          · exact h2 f hf
          · obtain rfl : f = (bs s, bs t) := by simpa using hf
            exact ⟨⟨bs_lt s, bs_lt t⟩, by rw [bs_len]; exact hs, by rw [bs_len]; exact ht⟩
        · by_cases hj : j < fs.length
          · rw [List.getElem?_append_left hj] at hf
            exact h3 j f hf
          · have hj' : j = k := by
              have := (List.getElem?_eq_some_iff.1 hf).1
              simp at this
              omega
            subst hj'
            rw [List.getElem?_append_right (by omega), h1] at hf
            obtain rfl : f = (bs s, bs t) := by simpa using hf.symm
            rw [st_bs, st_bs]
            exact ⟨c0, c1⟩
    obtain ⟨fs, h1, h2, h3⟩ := hex len (Nat.le_refl _)
    refine ⟨_, fs, rfl, ⟨some a, cap, by rw [h1], by omega, hm, ?_, fun h => nomatch h⟩, fun f hf => (h2 f hf).1, fun f hf => (h2 f hf).2⟩
    by_cases h0 : len = 0
    · exact .inl (List.length_eq_zero_iff.1 (by omega))
    · obtain ⟨b, off, sp⟩ := a
      obtain ⟨f, hf⟩ : ∃ f, fs[0]? = some f := ⟨_, List.getElem?_eq_getElem (by omega)⟩
      have hsp : sp = none := by
        have := (h3 0 f hf).1
        simp only [Nat.zero_mul, Addr.add, if_true] at this
        exact spot_none this
      subst hsp
      refine .inr ⟨b, off, rfl, fun j f hf => ?_⟩
      have := h3 j f hf
      rwa [Addr_add, Addr_add] at this
end By
end Go.Proofs.YtfobogcccbddbaaGreatDoor

/- Changes of files, plain: what Diff answers, and what holds of it. No condition. -/
namespace Go.Proofs.YtfobogcccbddbaaGreatDoor
set_option linter.unusedVariables false
set_option linter.unusedSimpArgs false
namespace FdN
open RevN
/-- A change: its kind, its path, its old path, its bytes. -/
abbrev Ch := Int × (List Nat × (List Nat × List Nat))
abbrev has (fs : List Fl) (p : List Nat) : Prop := ∃ f ∈ fs, f.1 = p
theorem srt_eq : ∀ {A B : List Fl} {p q : List Nat}, chkL p A = 0 → chkL q B = 0 → (∀ f, f ∈ A ↔ f ∈ B) → A = B
  | [], [], _, _, _, _, _ => rfl
  | [], y :: B, _, _, _, _, h => by have := (h y).2 List.mem_cons_self; simp at this
  | x :: A, [], _, _, _, _, h => by have := (h x).1 List.mem_cons_self; simp at this
  | x :: A, y :: B, p, q, ha, hb, h => by
    have h1 := chkL_gt (chkL_tail ha).1
    have h2 := chkL_gt (chkL_tail hb).1
    have hxy : x = y := by
      rcases List.mem_cons.1 ((h x).1 List.mem_cons_self) with e | e
      · exact e
      · rcases List.mem_cons.1 ((h y).2 List.mem_cons_self) with e2 | e2
        · exact e2.symm
        · have h3 := h2 x e
          have h4 := h1 y e2
          rw [lss_asymm h3] at h4
          cases h4
    subst hxy
    rw [srt_eq (chkL_tail ha).1 (chkL_tail hb).1 (fun f => ⟨fun hf => ?_, fun hf => ?_⟩)]
    · rcases List.mem_cons.1 ((h f).1 (List.mem_cons_of_mem _ hf)) with e | e
      · have h3 := h1 f hf; rw [e, lss_self] at h3; cases h3
      · exact e
    · rcases List.mem_cons.1 ((h f).2 (List.mem_cons_of_mem _ hf)) with e | e
      · have h3 := h2 f hf; rw [e, lss_self] at h3; cases h3
      · exact e
/-- In a well-formed revision a path has one file. -/
theorem one_file {fs : List Fl} {q : List Nat} (h : chkL q fs = 0) {f g : Fl} (hf : f ∈ fs) (hg : g ∈ fs) (e : f.1 = g.1) : f = g := by
  induction fs generalizing q with
  | nil => simp at hf
  | cons x fs ih =>
    have h1 := chkL_gt (chkL_tail h).1
    rcases List.mem_cons.1 hf with rfl | hf'
    · rcases List.mem_cons.1 hg with rfl | hg'
      · rfl
      · exact absurd e (lss_ne (h1 g hg'))
    · rcases List.mem_cons.1 hg with rfl | hg'
      · exact absurd e.symm (lss_ne (h1 f hf'))
      · exact ih (chkL_tail h).1 hf' hg'
theorem hasP_iff {fs : List Fl} (h : chk fs = 0) {p : List Nat} : hasP fs p = true ↔ has fs p := has_iff h p
theorem hasP_not {fs : List Fl} (h : chk fs = 0) {p : List Nat} : hasP fs p = false ↔ ¬ has fs p := by
  rw [← hasP_iff h]; simp
theorem bytesAt_eq {fs : List Fl} (h : chk fs = 0) {f : Fl} (hf : f ∈ fs) : bytesAt fs f.1 = f.2 := by
  obtain ⟨k, hk⟩ := List.mem_iff_getElem?.1 hf
  have h1 := find_at h hk rfl
  unfold findF at h1
  rw [if_neg (by simp [h]), if_neg (by rw [(hasP_iff h).2 ⟨f, hf, rfl⟩]; simp)] at h1
  exact (Prod.ext_iff.1 h1).1
def bfr (x y : Ch) : Bool := lss x.2.1 y.2.1 || (decide (x.2.1 = y.2.1) && decide (x.1 < y.1))
/-- A change at its place. -/
def ins (x : Ch) : List Ch → List Ch
  | [] => [x]
  | y :: l => if bfr x y = true then x :: y :: l else y :: ins x l
theorem ins_mem {x z : Ch} : ∀ {l : List Ch}, z ∈ ins x l ↔ z = x ∨ z ∈ l
  | [] => by simp [ins]
  | y :: l => by
    unfold ins
    split
    · simp
    · rw [List.mem_cons, ins_mem, List.mem_cons]
      exact ⟨fun h => by rcases h with h | h | h <;> simp [h], fun h => by rcases h with h | h | h <;> simp [h]⟩
def Srt (l : List Ch) : Prop := l.Pairwise fun x y => lss x.2.1 y.2.1 = true
theorem ins_srt {x : Ch} : ∀ {l : List Ch}, Srt l → (∀ y ∈ l, x.2.1 ≠ y.2.1) → Srt (ins x l)
  | [], _, _ => by simp [ins, Srt]
  | y :: l, h, hn => by
    have h1 := List.pairwise_cons.1 h
    have hxy := hn y List.mem_cons_self
    unfold ins
    split
    · rename_i hb
      have hlt : lss x.2.1 y.2.1 = true := by
        unfold bfr at hb
        simpa [hxy] using hb
      refine List.pairwise_cons.2 ⟨fun z hz => ?_, h⟩
      rcases List.mem_cons.1 hz with rfl | hz
      · exact hlt
      · exact lss_trans hlt (h1.1 z hz)
    · rename_i hb
      have hlt : lss x.2.1 y.2.1 = false := by
        cases hc : lss x.2.1 y.2.1 with
        | false => rfl
        | true => exact absurd (by unfold bfr; rw [hc]; rfl) hb
      refine List.pairwise_cons.2 ⟨fun z hz => ?_, ins_srt h1.2 (fun z hz => hn z (List.mem_cons_of_mem _ hz))⟩
      rcases ins_mem.1 hz with rfl | hz
      · exact lss_total hlt hxy
      · exact h1.1 z hz
/-- The files that only the first has. -/
def gn (a b : List Fl) : List Fl := a.filter fun f => !hasP b f.1
/-- The first place that is not used and has these bytes. -/
def fndU (y : List Nat) : List Fl → List Bool → Nat → Option Nat
  | g :: gs, u :: us, i => if u = false ∧ g.2 = y then some i else fndU y gs us (i + 1)
  | _, _, _ => none
theorem fndU_some (y : List Nat) : ∀ (gs : List Fl) (us : List Bool) (i k : Nat), fndU y gs us i = some k → ∃ j, k = i + j ∧ us[j]? = some false ∧ ∃ p, gs[j]? = some (p, y)
  | [], _, _, _, h => by simp [fndU] at h
  | g :: gs, [], _, _, h => by simp [fndU] at h
  | g :: gs, u :: us, i, k, h => by
    unfold fndU at h
    split at h
    · rename_i hm
      obtain rfl : i = k := by simpa using h
      exact ⟨0, rfl, by simp [hm.1], g.1, by simp [← hm.2]⟩
    · obtain ⟨j, h1, h2, p, h3⟩ := fndU_some y gs us (i + 1) k h
      exact ⟨j + 1, by omega, by simpa using h2, p, by simpa using h3⟩
theorem fndU_at (y : List Nat) : ∀ (gs : List Fl) (us : List Bool) (i j : Nat) (p : List Nat), gs[j]? = some (p, y) → us[j]? = some false → (∀ l, l < j → ∀ q, us[l]? = some false → gs[l]? ≠ some (q, y)) → fndU y gs us i = some (i + j)
  | [], _, _, _, _, h, _, _ => by simp at h
  | g :: gs, [], _, _, _, _, h, _ => by simp at h
  | g :: gs, u :: us, i, 0, p, h, h2, _ => by
    obtain rfl : g = (p, y) := by simpa using h
    obtain rfl : u = false := by simpa using h2
    unfold fndU
    rw [if_pos ⟨rfl, rfl⟩]
    rfl
  | g :: gs, u :: us, i, j + 1, p, h, h2, hn => by
    unfold fndU
    rw [if_neg (fun hc => by
      obtain ⟨h3, h4⟩ := hc
      exact hn 0 (by omega) g.1 (by simp [h3]) (by simp [← h4]))]
    rw [fndU_at y gs us (i + 1) j p (by simpa using h) (by simpa using h2) (fun l hl q h3 h4 => hn (l + 1) (by omega) q (by simpa using h3) (by simpa using h4))]
    congr 1
    omega
theorem fndU_none (y : List Nat) : ∀ (gs : List Fl) (us : List Bool) (i : Nat), (∀ (l : Nat) q, us[l]? = some false → gs[l]? ≠ some (q, y)) → fndU y gs us i = none
  | [], _, _, _ => by simp [fndU]
  | g :: gs, [], _, _ => by simp [fndU]
  | g :: gs, u :: us, i, hn => by
    unfold fndU
    rw [if_neg (fun hc => hn 0 g.1 (by simp [hc.1]) (by simp [← hc.2]))]
    exact fndU_none y gs us (i + 1) (fun l q h3 h4 => hn (l + 1) q (by simpa using h3) (by simpa using h4))
/-- One file of the second: the places that are used, and the changes. -/
def stepD (a g : List Fl) (s : List Bool × List Ch) (f : Fl) : List Bool × List Ch :=
  if hasP a f.1 = true then (s.1, if bytesAt a f.1 = f.2 then s.2 else ins (3, f.1, [], f.2) s.2)
  else match fndU f.2 g s.1 0 with
    | some i => (s.1.set i true, ins (4, f.1, (g[i]?.getD ([], [])).1, []) s.2)
    | none => (s.1, ins (1, f.1, [], f.2) s.2)
/-- One file that only the first has. -/
def stepR (g : List Fl) (us : List Bool) (D : List Ch) (i : Nat) : List Ch := if us[i]?.getD true = true then D else ins (2, (g[i]?.getD ([], [])).1, [], []) D
def dif1 (a b : List Fl) : List Bool × List Ch := b.foldl (stepD a (gn a b)) (List.replicate (gn a b).length false, [])
def difL (a b : List Fl) : List Ch := (List.range (gn a b).length).foldl (stepR (gn a b) (dif1 a b).1) (dif1 a b).2
theorem gn_mem {a b : List Fl} (hb : chk b = 0) {f : Fl} : f ∈ gn a b ↔ f ∈ a ∧ ¬ has b f.1 := by
  unfold gn
  rw [List.mem_filter]
  simp only [Bool.not_eq_true', hasP_not hb]
/-- What holds when the files bs of the second have been looked at. -/
structure DI (a b bs : List Fl) (us : List Bool) (D : List Ch) : Prop where
  len : us.length = (gn a b).length
  el : ∀ x ∈ D, (x.1 = 3 ∧ x.2.2.1 = [] ∧ (x.2.1, x.2.2.2) ∈ bs ∧ ∃ y, (x.2.1, y) ∈ a ∧ y ≠ x.2.2.2) ∨
    (x.1 = 1 ∧ x.2.2.1 = [] ∧ (x.2.1, x.2.2.2) ∈ bs ∧ ¬ has a x.2.1) ∨
    (x.1 = 4 ∧ x.2.2.2 = [] ∧ ¬ has a x.2.1 ∧ ∃ (i : Nat) (y : List Nat), (x.2.1, y) ∈ bs ∧ (gn a b)[i]? = some (x.2.2.1, y) ∧ us[i]? = some true)
  srt : Srt D
  all : ∀ f ∈ bs, f ∈ a ∨ ∃ x ∈ D, x.2.1 = f.1
  us4 : ∀ (i : Nat) (f : Fl), (gn a b)[i]? = some f → us[i]? = some true → ∃ x ∈ D, x.1 = 4 ∧ x.2.2.1 = f.1
  u4 : ∀ x ∈ D, ∀ y ∈ D, x.1 = 4 → y.1 = 4 → x.2.2.1 = y.2.2.1 → x = y
theorem DI.path {a b bs : List Fl} {us : List Bool} {D : List Ch} (h : DI a b bs us D) : ∀ x ∈ D, has bs x.2.1 := by
  intro x hx
  rcases h.el x hx with ⟨-, -, h1, -⟩ | ⟨-, -, h1, -⟩ | ⟨-, -, -, i, y, h1, -⟩
  · exact ⟨_, h1, rfl⟩
  · exact ⟨_, h1, rfl⟩
  · exact ⟨_, h1, rfl⟩
theorem DI.more {a b bs : List Fl} {us us' : List Bool} {D : List Ch} (h : DI a b bs us D) (f : Fl) {x : Ch} (hx : x ∈ D) (hu : ∀ i : Nat, us[i]? = some true → us'[i]? = some true) :
    (x.1 = 3 ∧ x.2.2.1 = [] ∧ (x.2.1, x.2.2.2) ∈ bs ++ [f] ∧ ∃ y, (x.2.1, y) ∈ a ∧ y ≠ x.2.2.2) ∨
    (x.1 = 1 ∧ x.2.2.1 = [] ∧ (x.2.1, x.2.2.2) ∈ bs ++ [f] ∧ ¬ has a x.2.1) ∨
    (x.1 = 4 ∧ x.2.2.2 = [] ∧ ¬ has a x.2.1 ∧ ∃ (i : Nat) (y : List Nat), (x.2.1, y) ∈ bs ++ [f] ∧ (gn a b)[i]? = some (x.2.2.1, y) ∧ us'[i]? = some true) := by
  rcases h.el x hx with ⟨h1, h2, h3, h4⟩ | ⟨h1, h2, h3, h4⟩ | ⟨h1, h2, h3, i, y, h4, h5, h6⟩
  · exact .inl ⟨h1, h2, List.mem_append_left _ h3, h4⟩
  · exact .inr (.inl ⟨h1, h2, List.mem_append_left _ h3, h4⟩)
  · exact .inr (.inr ⟨h1, h2, h3, i, y, List.mem_append_left _ h4, h5, hu i h6⟩)
theorem DI.start (a b : List Fl) : DI a b [] (List.replicate (gn a b).length false) [] :=
  ⟨by simp, fun x h => by simp at h, by simp [Srt], fun f h => by simp at h, fun i f _ h => by
    rw [List.getElem?_replicate] at h
    split at h <;> simp at h, fun x h => by simp at h⟩
theorem DI.step {a b bs : List Fl} {us : List Bool} {D : List Ch} (h : DI a b bs us D) (ha : chk a = 0) (hb : chk b = 0) {f : Fl} (hf : f ∈ b) (hnew : ¬ has bs f.1) :
    DI a b (bs ++ [f]) (stepD a (gn a b) (us, D) f).1 (stepD a (gn a b) (us, D) f).2 := by
  have hp : ∀ y ∈ D, f.1 ≠ y.2.1 := fun y hy e => hnew (by rw [e]; exact h.path y hy)
  have hmem : f ∈ bs ++ [f] := List.mem_append_right _ List.mem_cons_self
  unfold stepD
  by_cases hh : hasP a f.1 = true
  · rw [if_pos hh]
    obtain ⟨g, hg, he⟩ := (hasP_iff ha).1 hh
    have hby : bytesAt a f.1 = g.2 := by rw [← he]; exact bytesAt_eq ha hg
    by_cases hq : bytesAt a f.1 = f.2
    · simp only [hq, if_true]
      have hfa : f ∈ a := by
        have : g = f := Prod.ext_iff.2 ⟨he, by rw [← hby, hq]⟩
        exact this ▸ hg
      refine ⟨h.len, fun x hx => h.more f hx (fun i h => h), h.srt, fun x hx => ?_, h.us4, h.u4⟩
      rcases List.mem_append.1 hx with hx | hx
      · exact h.all x hx
      · obtain rfl : x = f := by simpa using hx
        exact .inl hfa
    · simp only [hq, if_false]
      refine ⟨h.len, fun x hx => ?_, ins_srt h.srt hp, fun x hx => ?_, fun i z hz hu => ?_, fun x hx y hy hx4 hy4 e => ?_⟩
      · rcases ins_mem.1 hx with rfl | hx
        · exact .inl ⟨rfl, rfl, hmem, g.2, he ▸ hg, by rw [← hby]; exact hq⟩
        · exact h.more f hx (fun i h => h)
      · rcases List.mem_append.1 hx with hx | hx
        · rcases h.all x hx with h1 | ⟨z, hz, e⟩
          · exact .inl h1
          · exact .inr ⟨z, ins_mem.2 (.inr hz), e⟩
        · obtain rfl : x = f := by simpa using hx
          exact .inr ⟨_, ins_mem.2 (.inl rfl), rfl⟩
      · obtain ⟨x, hx, h1⟩ := h.us4 i z hz hu
        exact ⟨x, ins_mem.2 (.inr hx), h1⟩
      · rcases ins_mem.1 hx with rfl | hx
        · cases hx4
        · rcases ins_mem.1 hy with rfl | hy
          · cases hy4
          · exact h.u4 x hx y hy hx4 hy4 e
  · rw [if_neg hh]
    have hna : ¬ has a f.1 := (hasP_not ha).1 (by simpa using hh)
    cases hfd : fndU f.2 (gn a b) us 0 with
    | none =>
      simp only
      refine ⟨h.len, fun x hx => ?_, ins_srt h.srt hp, fun x hx => ?_, fun i z hz hu => ?_, fun x hx y hy hx4 hy4 e => ?_⟩
      · rcases ins_mem.1 hx with rfl | hx
        · exact .inr (.inl ⟨rfl, rfl, hmem, hna⟩)
        · exact h.more f hx (fun i h => h)
      · rcases List.mem_append.1 hx with hx | hx
        · rcases h.all x hx with h1 | ⟨z, hz, e⟩
          · exact .inl h1
          · exact .inr ⟨z, ins_mem.2 (.inr hz), e⟩
        · obtain rfl : x = f := by simpa using hx
          exact .inr ⟨_, ins_mem.2 (.inl rfl), rfl⟩
      · obtain ⟨x, hx, h1⟩ := h.us4 i z hz hu
        exact ⟨x, ins_mem.2 (.inr hx), h1⟩
      · rcases ins_mem.1 hx with rfl | hx
        · cases hx4
        · rcases ins_mem.1 hy with rfl | hy
          · cases hy4
          · exact h.u4 x hx y hy hx4 hy4 e
    | some k =>
      simp only
      obtain ⟨j, hj, hu, p, hg⟩ := fndU_some _ _ _ _ _ hfd
      obtain rfl : k = j := by omega
      rw [hg]
      simp only [Option.getD_some]
      have hgm := (gn_mem hb).1 (List.mem_of_getElem? hg)
      have hkl : k < us.length := (List.getElem?_eq_some_iff.1 hu).1
      have hset : ∀ i : Nat, us[i]? = some true → (us.set k true)[i]? = some true := fun i hi => by
        rw [List.getElem?_set]
        by_cases e : k = i
        · rw [if_pos e, if_pos (by omega)]
        · rw [if_neg e]; exact hi
      -- the place k was not used: no change has its path as the old one
      have hfree : ∀ x ∈ D, x.1 = 4 → x.2.2.1 ≠ p := by
        intro x hx h4 e
        rcases h.el x hx with ⟨h1, -⟩ | ⟨h1, -⟩ | ⟨-, -, -, i, y, -, h5, h6⟩
        · omega
        · omega
        · have hi := (gn_mem hb).1 (List.mem_of_getElem? h5)
          have e2 : (x.2.2.1, y) = (p, f.2) := one_file (chk_ok ha).2 hi.1 hgm.1 e
          have hlt : i < (gn a b).length := (List.getElem?_eq_some_iff.1 h5).1
          have hnd : i = k := by
            have hs : (gn a b).Pairwise fun x y => x.1 ≠ y.1 := by
              unfold gn
              refine List.Pairwise.sublist List.filter_sublist ?_
              have hh : ∀ (l : List Fl) (q : List Nat), chkL q l = 0 → l.Pairwise fun x y => x.1 ≠ y.1 := by
                intro l
                induction l with
                | nil => intro q _; exact List.Pairwise.nil
                | cons z l ih => intro q hq; exact List.pairwise_cons.2 ⟨fun y hy => lss_ne (chkL_gt (chkL_tail hq).1 y hy), ih _ (chkL_tail hq).1⟩
              exact hh a [] (chk_ok ha).2
            obtain ⟨h7, h8⟩ := List.getElem?_eq_some_iff.1 h5
            obtain ⟨h9, h10⟩ := List.getElem?_eq_some_iff.1 hg
            rcases Nat.lt_trichotomy i k with h11 | h11 | h11
            · exact absurd (by rw [h8, h10]; exact e) ((List.pairwise_iff_getElem.1 hs) i k h7 h9 h11)
            · exact h11
            · exact absurd (by rw [h8, h10]; exact e.symm) ((List.pairwise_iff_getElem.1 hs) k i h9 h7 h11)
          rw [hnd, hu] at h6
          cases h6
      refine ⟨by rw [List.length_set]; exact h.len, fun x hx => ?_, ins_srt h.srt hp, fun x hx => ?_, fun i z hz hi => ?_, fun x hx y hy hx4 hy4 e => ?_⟩
      · rcases ins_mem.1 hx with rfl | hx
        · exact .inr (.inr ⟨rfl, rfl, hna, k, f.2, hmem, hg, by rw [List.getElem?_set_self hkl]⟩)
        · exact h.more f hx hset
      · rcases List.mem_append.1 hx with hx | hx
        · rcases h.all x hx with h1 | ⟨z, hz, e⟩
          · exact .inl h1
          · exact .inr ⟨z, ins_mem.2 (.inr hz), e⟩
        · obtain rfl : x = f := by simpa using hx
          exact .inr ⟨_, ins_mem.2 (.inl rfl), rfl⟩
      · by_cases e : k = i
        · subst e
          rw [hg] at hz
          obtain rfl : (p, f.2) = z := by simpa using hz
          exact ⟨_, ins_mem.2 (.inl rfl), rfl, rfl⟩
        · rw [List.getElem?_set, if_neg e] at hi
          obtain ⟨x, hx, h1⟩ := h.us4 i z hz hi
          exact ⟨x, ins_mem.2 (.inr hx), h1⟩
      · rcases ins_mem.1 hx with rfl | hx
        · rcases ins_mem.1 hy with rfl | hy
          · rfl
          · exact absurd e.symm (hfree y hy hy4)
        · rcases ins_mem.1 hy with rfl | hy
          · exact absurd e (hfree x hx hx4)
          · exact h.u4 x hx y hy hx4 hy4 e
end FdN
end Go.Proofs.YtfobogcccbddbaaGreatDoor
