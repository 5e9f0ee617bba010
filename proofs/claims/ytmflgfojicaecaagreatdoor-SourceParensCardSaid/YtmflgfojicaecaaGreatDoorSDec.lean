/- The parser's decl. Condition: the parser lies in memory as it is named; the row reads as the earlier declarations. -/
import Derived.Test.YtmflgfojicaecaaGreatDoorMSg
namespace Go.Proofs.YtmflgfojicaecaaGreatDoor
namespace By
open Go.RowKit WireN LexN SrcN
set_option linter.unusedVariables false
set_option linter.unusedSimpArgs false

/-- What reading a declaration leaves. -/
def AnsD (F : Nat → Prop) (g p : Nat) (r : Out Dc) (W : World) (e : Ending) (W' : World) : Prop :=
  match r with
  | .ok d s => ∃ (pv bv : Value) (G D : Nat → Prop), e = .returned (.agg #[.int .i64 (d.k : Nat), .string (st d.nm), pv, bv]) ∧ (∀ k, F k → G k) ∧ PI G g p W' s ∧ DcAt D W' d pv bv ∧ (∀ b, D b → G b ∧ ¬ F b ∧ b < W'.heap.size) ∧ Lt d.nm ∧ d.nm.length ≤ 100000 ∧ Keep F W W'
  | .bad at' n => e = pan at' n ∧ Keep F W W'
theorem paramOk (F : Nat → Prop) (g p : Nat) : ItemOk F g p 131 #[.pointer (some ⟨p, 0, none⟩)] noStab param where
  stab := fun _ _ _ _ _ _ => trivial
  enter := Tryz.call131
  any := fun b G W s r hs h _ hr => by
    refine (parameter_st h hr).mono ?_
    intro e W' ha
    cases r with
    | bad a e' => exact ⟨ha.1, ha.2.mono hs⟩
    | ok b' s' =>
      obtain ⟨h1, G', h2, h3, -, h4⟩ := ha
      exact ⟨h1, G', fun k hk => h2 k (hs k hk), h3, trivial, h4.mono hs⟩
set_option maxRecDepth 100000 in
set_option maxHeartbeats 4000000 in
theorem decl_st {F : Nat → Prop} {g p n : Nat} {W : World} {s : St} (h : PI F g p W s) {v : Value} {earlier : List Dc} {xs : List (Value × Value)} (hD : DR W v earlier xs) (hDF : ∀ b, v.ownBlock = some b → F b) {r : Out Dc} (hr : decl n earlier s = some r) :
    Calls Tryz.prog 92 #[.pointer (some ⟨p, 0, none⟩), v] W (AnsD F g p r W) := by
  obtain ⟨Q, hQ⟩ : ∃ Q, Q = AnsD F g p r W := ⟨_, rfl⟩
  rw [← hQ]
  have HQ := Lib.hid hQ
  have H := Lib.hid h
  obtain ⟨vo, vc, rfl⟩ := row_open hD.own
  obtain ⟨vl, hvl⟩ : ∃ vl, vl = earlier.length := ⟨_, rfl⟩
  rw [← hvl] at hD hDF ⊢
  have HDR := Lib.hid hD; have DF := Lib.hid hDF; have HVL := Lib.hid hvl
  obtain ⟨o, len, rc, pv, bv, K, T, NM, AT, hhd, hT, hpc⟩ := h.hd
  obtain ⟨Wa, hWa⟩ : ∃ Wa, Wa = W.alloc (Obj.cells #[.int .i64 0, .string ⟨#[]⟩, .slice none 0 0, .slice none 0 0] 38) := ⟨_, rfl⟩
  obtain ⟨W0, hW0⟩ : ∃ W0, W0 = Wa.alloc (Obj.cells #[.int .i64 (K : Nat), .string (st T), .int .i64 (NM : Nat), .int .i64 (AT : Nat)] 111) := ⟨_, rfl⟩
  obtain ⟨rb, hrb⟩ : ∃ rb, rb = W.heap.size := ⟨_, rfl⟩
  obtain ⟨tb, htb⟩ : ∃ tb, tb = W.heap.size + 1 := ⟨_, rfl⟩
  have hsa : Wa.heap.size = W.heap.size + 1 := by rw [hWa]; simp
  have hs0 : W0.heap.size = W.heap.size + 2 := by rw [hW0]; simp; omega
  have ka : Kp W Wa := by rw [hWa]; exact kp_alloc W _
  have kb' : Kp Wa W0 := by rw [hW0]; exact kp_alloc Wa _
  have K0 : Hid (Kp W W0) := Kp.trans ka kb'
  have RB : Hid (Blk W0 rb 38 #[.int .i64 0, .string ⟨#[]⟩, .slice none 0 0, .slice none 0 0]) := by
    have : Blk Wa W.heap.size 38 #[.int .i64 0, .string ⟨#[]⟩, .slice none 0 0, .slice none 0 0] := by rw [hWa]; exact Blk.new _ _ _
    show Blk _ _ _ _
    rw [hrb]
    exact this.keep kb'
  have TB : Hid (Blk W0 tb 111 #[.int .i64 (K : Nat), .string (st T), .int .i64 (NM : Nat), .int .i64 (AT : Nat)]) := by show Blk _ _ _ _; rw [hW0, htb, ← hsa]; exact Blk.new _ _ _
  have HW0 : Hid (W0 = (W.alloc (Obj.cells #[.int .i64 0, .string ⟨#[]⟩, .slice none 0 0, .slice none 0 0] 38)).alloc (Obj.cells #[.int .i64 (K : Nat), .string (st T), .int .i64 (NM : Nat), .int .i64 (AT : Nat)] 111)) := by show _ = _; rw [hW0, hWa]
  have Z0 := Lib.hid hs0
  have MR : Hid (Mine F W W0 rb) := by show Mine _ _ _ _; exact .inr ⟨by omega, by omega⟩
  have MT : Hid (Mine F W W0 tb) := by show Mine _ _ _ _; exact .inr ⟨by omega, by omega⟩
  have BAD : Hid (∀ a e W', Keep (Mine F W W0) W0 W' → r = .bad a e → Q (pan a e) W') := by
    intro a e W' hk he
    rw [HQ.out, he]
    exact ⟨rfl, (Kp.keep K0.out H.out.dom).trans (hk.mono (fun k hk => .inl hk))⟩
  have P0 := Lib.hid (H.out.fresh K0.out)
  obtain ⟨c0, c1, c2, f0, t0, t1, t2, t3, hp, hlen⟩ := hpc.kp ka
  have hrr : (len : Int) ≠ 0 := by omega
  rw [hWa] at c0 t0 t1 t2 t3
  have ERB := Lib.hid hrb; have ETB := Lib.hid htb; have HHD := Lib.hid hhd
  have H0 : Hid (bnd kind (fun k => bnd (room (SrcN.hd s) earlier.length 64) fun _ => bnd (declared k earlier) fun nm => fun s =>
    bnd (if k = 1 then list n param () else ret ()) (fun _ => bnd (expt [61]) fun _ => bnd (expr n 1) fun _ => bnd (expt [59]) fun _ => fun s => some (.ok ⟨k, nm, s.ps, s.bd⟩ ⟨s.ts, [], [], false⟩)) ⟨s.ts, [], [], true⟩) s = some r) := hr
  clear hQ h hD hDF hvl hWa hW0 hrb htb hsa hs0 ka kb' hr hhd hT hpc c1 c2 f0 hlen
  go_enter Tryz.func92, Tryz.ntmps92
  go_wp2_with fail
  rw [← HW0.out]
  rw [← ETB.out, ← ERB.out]
  clear c0 t0 t1 t2 t3
  rcases bnd_some H0.out with ⟨a, e, hm, he⟩ | ⟨k, s1, hm, hk1⟩
  · have C := Lib.hid (kind_st P0.out hm)
    have HE := Lib.hid he
    clear hm he
    refine C.out.mono ?_
    rintro e1 W1 ⟨rfl, hk⟩
    exact ⟨rfl, BAD.out _ _ _ hk HE.out⟩
  have C := Lib.hid (kind_st P0.out hm)
  have H1 : Hid (bnd (room (K, T, NM, AT) earlier.length 64) (fun _ => bnd (declared k earlier) fun nm => fun s =>
    bnd (if k = 1 then list n param () else ret ()) (fun _ => bnd (expt [61]) fun _ => bnd (expr n 1) fun _ => bnd (expt [59]) fun _ => fun s => some (.ok ⟨k, nm, s.ps, s.bd⟩ ⟨s.ts, [], [], false⟩)) ⟨s.ts, [], [], true⟩) s1 = some r) := by show _ = _; rw [← HHD.out]; exact hk1
  clear hm hk1
  refine C.out.mono ?_
  rintro e1 W1 ⟨⟨v, rfl, rfl⟩, hpi, hke⟩
  have P1 := Lib.hid hpi; have E1 := Lib.hid hke
  obtain ⟨W2, hW2⟩ : ∃ W2, W2 = W1.alloc (Obj.cells #[.int .i64 (k : Nat), .string ⟨#[]⟩, .slice none 0 0, .slice none 0 0] 38) := ⟨_, rfl⟩
  obtain ⟨db, hdb⟩ : ∃ db, db = W1.heap.size := ⟨_, rfl⟩
  have hs2 : W2.heap.size = W1.heap.size + 1 := by rw [hW2]; simp
  have K2 : Hid (Kp W1 W2) := by show Kp W1 W2; rw [hW2]; exact kp_alloc W1 _
  have DB : Hid (Blk W2 db 38 #[.int .i64 (k : Nat), .string ⟨#[]⟩, .slice none 0 0, .slice none 0 0]) := by show Blk _ _ _ _; rw [hW2, hdb]; exact Blk.new _ _ _
  have MD : Hid (Mine (Mine F W W0) W1 W2 db) := by show Mine _ _ _ _; rw [hdb]; exact .inr ⟨Nat.le_refl _, by omega⟩
  have P2 := Lib.hid (P1.out.fresh K2.out)
  have E2 := Lib.hid (E1.out.trans (Kp.keep K2.out P1.out.dom))
  have tb2 := (TB.out.kept E1.out MT.out).keep K2.out
  have q0 := tb2.cell 0 rfl; have q1 := tb2.cell 1 rfl; have q2 := tb2.cell 2 rfl; have q3 := tb2.cell 3 rfl
  have DR2 := Lib.hid (((HDR.out.kp K0.out).keep (fun b hb => E1.out.block b (.inl (DF.out b hb)))).kp K2.out)
  have NDB : Hid (¬ Mine F W W0 db) := by
    intro hx
    have := P1.out.dom db hx
    omega
  have BAD2 : Hid (∀ a e W', Keep (Mine (Mine F W W0) W1 W2) W2 W' → r = .bad a e → Q (pan a e) W') := fun a e W' hk he => BAD.out a e W' (E2.out.trans (hk.mono (fun k hk => .inl hk))) he
  have EDB := Lib.hid hdb; have HW2 := Lib.hid hW2; have Z2 := Lib.hid hs2
  rw [hW2] at q0 q1 q2 q3
  clear hpi hke hW2 hdb hs2 tb2 C
  go_wp2_with fail
  rw [← HW2.out] at q0 q1 q2 q3 ⊢
  rw [← EDB.out]
  clear q0 q1 q2 q3
  by_cases hn : 64 ≤ vl
  · have HE : Hid (r = .bad AT 2) := by
      have hx : room (K, T, NM, AT) earlier.length 64 s1 = some (.bad AT 2) := by
        unfold SrcN.room
        rw [if_pos (by rw [← HVL.out]; exact hn)]
        rfl
      rcases bnd_some H1.out with ⟨a, e, hm, he⟩ | ⟨_, s2, hm, -⟩
      · rw [hx] at hm
        injection hm with hm
        injection hm with h1 h2
        show _ = _
        rw [he, ← h1, ← h2]
      · rw [hx] at hm
        cases hm
    have hni : (64 : Int) ≤ (vl : Int) := by omega
    refine (room_no K NM AT (st T) vl 64 hni W2).mono ?_
    rintro e1 W3 ⟨rfl, hk⟩
    exact ⟨rfl, BAD2.out _ _ _ (Kp.keep hk P2.out.dom) HE.out⟩
  have hx : room (K, T, NM, AT) earlier.length 64 s1 = some (.ok () s1) := by
    unfold SrcN.room
    rw [if_neg (by rw [← HVL.out]; exact hn)]
    rfl
  have hni : (vl : Int) < (64 : Int) := by omega
  rcases bnd_some H1.out with ⟨a, e, hm, he⟩ | ⟨u, s1', hm, hk⟩
  · rw [hx] at hm; cases hm
  rw [hx] at hm
  injection hm with hm
  injection hm with h1 h2
  subst h2
  clear hx h1
  refine (room_yes K NM AT (st T) vl 64 hni W2).mono ?_
  rintro e1 W3 ⟨rfl, hk3⟩
  have K3 := Lib.hid hk3
  have P3 := Lib.hid (P2.out.kp hk3)
  have E3 := Lib.hid (Kp.keep hk3 P2.out.dom)
  have d0 := (DB.out.keep hk3).cell 0 rfl
  have DRF : Hid (∀ b, (Value.slice vo vl vc).ownBlock = some b → Mine (Mine F W W0) W1 W2 b) := fun b hb => .inl (.inl (DF.out b hb))
  have DR3 := Lib.hid (DR2.out.kp hk3)
  clear hk3 hni hn
  rcases bnd_some hk with ⟨a, e, hm, he⟩ | ⟨nm, s2, hm, hk4⟩
  · have C := Lib.hid (declared_st P3.out DR3.out DRF.out hm)
    have HE := Lib.hid he
    clear hm he hk
    go_wp2_with fail
    refine C.out.mono ?_
    rintro e1 W4 ⟨rfl, hk⟩
    exact ⟨rfl, BAD2.out _ _ _ (E3.out.trans hk) HE.out⟩
  have C := Lib.hid (declared_st P3.out DR3.out DRF.out hm)
  have H4 : Hid (bnd (if k = 1 then list n param () else ret ()) (fun _ => bnd (expt [61]) fun _ => bnd (expr n 1) fun _ => bnd (expt [59]) fun _ => fun s => some (.ok ⟨k, nm, s.ps, s.bd⟩ ⟨s.ts, [], [], false⟩)) ⟨s2.ts, [], [], true⟩ = some r) := hk4
  clear hm hk4 hk
  go_wp2_with fail
  refine C.out.mono ?_
  rintro e1 W4 ⟨⟨v, rfl, rfl, hnm⟩, hpi, hke⟩
  have HNM := Lib.hid hnm
  have E4 := Lib.hid (E3.out.trans hke)
  have b4 := DB.out.kept E4.out MD.out
  obtain ⟨X, hX⟩ : ∃ X, X = W4.setCell ⟨db, 1, none⟩ (.string (st nm)) := ⟨_, rfl⟩
  have ox : Only db W4 X := by rw [hX]; exact (Only.refl _ W4).set 1 _
  have NB : Hid (∀ b, Bs g b → b ≠ db) := fun b hb e => NDB.out (e ▸ P0.out.tok b hb)
  have pX : PI (Mine (Mine F W W0) W1 W2) g p X s2 := hpi.outer (Nat.le_of_eq ox.size) (fun b _ hn => ox.block b (fun e => hn (e ▸ MD.out))) (fun b hb => ox.block b (NB.out b hb))
  have eX : Keep (Mine F W W0) W4 X := ⟨ox.os, ox.tape, ox.output, Nat.le_of_eq ox.size, fun b hb => ox.block b (fun e => NDB.out (e ▸ hb))⟩
  have bX : Blk X db 38 #[.int .i64 (k : Nat), .string (st nm), .slice none 0 0, .slice none 0 0] := by rw [hX]; exact b4.set 1 _
  obtain ⟨o5, rc5, pv5, bv5, vs5, hpm⟩ := pX
  obtain ⟨Y, hY⟩ : ∃ Y, Y = (X.setCell ⟨p, 1, none⟩ (.slice none 0 0)).setCell ⟨p, 2, none⟩ (.slice none 0 0) := ⟨_, rfl⟩
  have hrs := hpm.reset hY
  have NP : Hid (db ≠ p) := fun e => hpm.own (e ▸ MD.out)
  have oy : Only p X Y := by rw [hY]; exact ((Only.refl _ X).set 1 _).set 2 _
  have bY : Blk Y db 38 #[.int .i64 (k : Nat), .string (st nm), .slice none 0 0, .slice none 0 0] := (oy.block db NP.out).trans bX
  have DBY := Lib.hid bY
  have P5 : Hid (PI (Mine (Mine F W W0) W1 W2) g p Y ⟨s2.ts, [], [], true⟩) := ⟨_, _, _, _, _, hrs.1⟩
  have E5 : Hid (Keep (Mine F W W0) W0 Y) := E2.out.trans (((E4.out.mono (fun k hk => .inl hk)).trans eX).trans (hrs.2.mono (fun k hk => .inl hk)))
  have z1 := b4.cell 1 rfl; have zf := b4.free 1
  have p1 := hpm.blk.cell 1 rfl; have p2 := hpm.blk.cell 2 rfl; have pf1 := hpm.blk.free 1; have pf2 := hpm.blk.free 2
  have y0 := bY.cell 0 rfl
  have HX := Lib.hid hX; have HY := Lib.hid hY
  rw [hY, hX] at y0
  rw [hX] at p1 p2 pf1 pf2
  clear hnm hpi hke b4 ox eX bX hX hY oy bY hpm hrs C d0
  by_cases hk1 : k = 1
  · have hki : ((k : Int) == 1) = true := by rw [hk1]; rfl
    have H5 : Hid (bnd (list n param ()) (fun _ => bnd (expt [61]) fun _ => bnd (expr n 1) fun _ => bnd (expt [59]) fun _ => fun s => some (.ok ⟨k, nm, s.ps, s.bd⟩ ⟨s.ts, [], [], false⟩)) ⟨s2.ts, [], [], true⟩ = some r) := by
      have := H4.out
      rw [if_pos hk1] at this
      exact this
    clear H4 hk1
    go_wp2_with fail
    rw [← HX.out, ← HY.out]
    rcases bnd_some H5.out with ⟨a, e, hm, he⟩ | ⟨_, s3, hm, hk5⟩
    · have C := Lib.hid (list_st2 (paramOk _ g p) (fun _ h => h) P5.out trivial hm)
      have HE := Lib.hid he
      clear hm he
      refine C.out.mono ?_
      rintro e1 W6 ⟨rfl, hk⟩
      exact ⟨rfl, BAD.out _ _ _ (E5.out.trans (hk.mono (fun k hk => .inl hk))) HE.out⟩
    have C := Lib.hid (list_st2 (paramOk _ g p) (fun _ h => h) P5.out trivial hm)
    have H6 : Hid (bnd (expt [61]) (fun _ => bnd (expr n 1) fun _ => bnd (expt [59]) fun _ => fun s => some (.ok ⟨k, nm, s.ps, s.bd⟩ ⟨s.ts, [], [], false⟩)) s3 = some r) := hk5
    have LV3 : Hid (s3.lv = true) := klv_list klv_param _ _ _ _ _ hm
    clear hm hk5 z1 zf p1 p2 pf1 pf2 y0
    refine C.out.mono ?_
    rintro e1 W6 ⟨rfl, G, hs, hpi, -, hke⟩
    have P6 := Lib.hid hpi; have E6 := Lib.hid hke; have HS := Lib.hid hs
    clear hs hpi hke C
    go_wp2_with fail
    have BADG : Hid (∀ a e W', Keep G W6 W' → r = .bad a e → Q (pan a e) W') := fun a e W' hk he => BAD.out a e W' (E5.out.trans ((E6.out.trans (hk.mono HS.out)).mono (fun k hk => .inl hk))) he
    rcases bnd_some H6.out with ⟨a, e, hm, he⟩ | ⟨_, s4, hm, hk6⟩
    · have C := Lib.hid (expect_st P6.out (X := ⟨#[61]⟩) (w := [61]) rfl (lt_mem (by decide)) (by decide) hm)
      have HE := Lib.hid he
      clear hm he
      refine C.out.mono ?_
      rintro e1 W7 ⟨rfl, hk⟩
      exact ⟨rfl, BADG.out _ _ _ hk HE.out⟩
    have C := Lib.hid (expect_st P6.out (X := ⟨#[61]⟩) (w := [61]) rfl (lt_mem (by decide)) (by decide) hm)
    have H7 : Hid (bnd (expr n 1) (fun _ => bnd (expt [59]) fun _ => fun s => some (.ok ⟨k, nm, s.ps, s.bd⟩ ⟨s.ts, [], [], false⟩)) s4 = some r) := hk6
    have LV4 : Hid (s4.lv = true) := (klv_expt _ _ _ _ hm).trans LV3.out
    clear hm hk6
    refine C.out.mono ?_
    rintro e1 W7 ⟨⟨v, rfl, rfl⟩, hpi, hke⟩
    have P7 := Lib.hid hpi; have E7 := Lib.hid hke
    clear hpi hke C
    rcases bnd_some H7.out with ⟨a, e, hm, he⟩ | ⟨j, s5, hm, hk7⟩
    · have C : Hid (Calls Tryz.prog 132 #[.pointer (some ⟨p, 0, none⟩), .int .i64 1] W7 (Ans' G g p vN (.bad a e) W7)) := expr_all n 1 (Nat.le_refl 1) (by decide) G g p W7 s4 _ P7.out hm
      have HE := Lib.hid he
      clear hm he
      go_wp2_with fail
      refine C.out.mono ?_
      rintro e1 W8 ⟨rfl, hk⟩
      exact ⟨rfl, BADG.out _ _ _ (E7.out.trans hk) HE.out⟩
    have C : Hid (Calls Tryz.prog 132 #[.pointer (some ⟨p, 0, none⟩), .int .i64 1] W7 (Ans' G g p vN (.ok j s5) W7)) := expr_all n 1 (Nat.le_refl 1) (by decide) G g p W7 s4 _ P7.out hm
    have H8 : Hid (bnd (expt [59]) (fun _ => fun s => some (.ok ⟨k, nm, s.ps, s.bd⟩ ⟨s.ts, [], [], false⟩)) s5 = some r) := hk7
    have LV5 : Hid (s5.lv = true) := (klv_expr _ _ _ _ _ hm).trans LV4.out
    clear hm hk7
    go_wp2_with fail
    refine C.out.mono ?_
    rintro e1 W8 ⟨⟨v, rfl, rfl⟩, hpi, hke⟩
    have P8 := Lib.hid hpi; have E8 := Lib.hid (E7.out.trans hke)
    clear hpi hke C
    rcases bnd_some H8.out with ⟨a, e, hm, he⟩ | ⟨_, s6, hm, hk8⟩
    · have C := Lib.hid (expect_st P8.out (X := ⟨#[59]⟩) (w := [59]) rfl (lt_mem (by decide)) (by decide) hm)
      have HE := Lib.hid he
      clear hm he
      go_wp2_with fail
      refine C.out.mono ?_
      rintro e1 W9 ⟨rfl, hk⟩
      exact ⟨rfl, BADG.out _ _ _ (E8.out.trans hk) HE.out⟩
    have C := Lib.hid (expect_st P8.out (X := ⟨#[59]⟩) (w := [59]) rfl (lt_mem (by decide)) (by decide) hm)
    have HR : Hid (r = .ok ⟨k, nm, s6.ps, s6.bd⟩ ⟨s6.ts, [], [], false⟩) := by
      injection hk8 with hk8
      exact hk8.symm
    have LV6 : Hid (s6.lv = true) := (klv_expt _ _ _ _ hm).trans LV5.out
    clear hm hk8
    go_wp2_with fail
    refine C.out.mono ?_
    rintro e1 W9 ⟨⟨v, rfl, rfl⟩, hpi, hke⟩
    have E9 := Lib.hid (E8.out.trans hke)
    obtain ⟨o9, rc9, pv9, bv9, vs9, hpm9⟩ := hpi
    obtain ⟨po, pc, rfl⟩ := row_open (hpm9.pown LV6.out)
    obtain ⟨bo, bc, rfl⟩ := row_open (hpm9.bown LV6.out)
    have PM9 := Lib.hid hpm9
    obtain ⟨pl, hpl⟩ : ∃ pl, pl = s6.ps.length := ⟨_, rfl⟩
    obtain ⟨bl, hbl⟩ : ∃ bl, bl = s6.bd.length := ⟨_, rfl⟩
    rw [← hpl, ← hbl] at PM9
    have HPL := Lib.hid hpl; have HBL := Lib.hid hbl
    have db9 := (DBY.out.kept E6.out MD.out).kept E9.out (HS.out _ MD.out)
    have rb9 := ((RB.out.kept E5.out MR.out).kept E6.out (.inl MR.out)).kept E9.out (HS.out _ (.inl MR.out))
    have DB9 := Lib.hid db9; have RB9 := Lib.hid rb9
    obtain ⟨Wd, hWd⟩ : ∃ Wd, Wd = W9.drew := ⟨_, rfl⟩
    have p1 := PM9.out.blk.cell 1 rfl; have p2 := PM9.out.blk.cell 2 rfl
    have w0 := db9.cell 0 rfl; have w1 := db9.cell 1 rfl; have w2 := db9.cell 2 rfl; have w3 := db9.cell 3 rfl
    have g0 := db9.free 0; have g1 := db9.free 1; have g2 := db9.free 2; have g3 := db9.free 3
    have v0 := rb9.cell 0 rfl; have v1 := rb9.cell 1 rfl; have v2 := rb9.cell 2 rfl; have v3 := rb9.cell 3 rfl
    have u0 := rb9.free 0; have u1 := rb9.free 1; have u2 := rb9.free 2; have u3 := rb9.free 3
    have np1 : ¬ (db = p) := NP.out
    have np2 : ¬ (p = db) := fun e => NP.out e.symm
    clear hke C hpm9 hpl hbl db9 rb9 hWd
    go_wp2_with fail
    go_region
    all_goals
      obtain ⟨Z, hZ⟩ : ∃ Z, Z = ((W9.setCell ⟨db, 2, none⟩ (.slice po pl pc)).setCell ⟨db, 3, none⟩ (.slice bo bl bc)).drew := ⟨_, rfl⟩
      rw [← hZ]
      have oz : Only db W9 Z := by
        have h0 := ((Only.refl db W9).set 2 (.slice po pl pc)).set 3 (.slice bo bl bc)
        rw [hZ]
        exact ⟨h0.os, h0.tape, h0.output, h0.size, h0.block⟩
      have dbZ : Blk Z db 38 #[.int .i64 (k : Nat), .string (st nm), .slice po pl pc, .slice bo bl bc] := by rw [hZ]; exact (DB9.out.set 2 _).set 3 _
      have rbZ : Blk Z rb 38 #[.int .i64 0, .string ⟨#[]⟩, .slice none 0 0, .slice none 0 0] := (oz.block rb (fun e => NDB.out (e ▸ MR.out))).trans RB9.out
      have FIN : Hid (∀ V, V = (((Z.setCell ⟨rb, 0, none⟩ (.int .i64 (k : Nat))).setCell ⟨rb, 1, none⟩ (.string (st nm))).setCell ⟨rb, 2, none⟩ (.slice po pl pc)).setCell ⟨rb, 3, none⟩ (.slice bo bl bc) → Q (.returned (.agg #[.int .i64 (k : Nat), .string (st nm), .slice po pl pc, .slice bo bl bc])) V) := by
        intro V hV
        have ov : Only rb Z V := by rw [hV]; exact ((((Only.refl _ Z).set 0 _).set 1 _).set 2 _).set 3 _
        have hall : ∀ b, b ≠ db → b ≠ rb → V.heap[b]? = W9.heap[b]? := fun b h1 h2 => (ov.block b h2).trans (oz.block b h1)
        have hz : W9.heap.size ≤ V.heap.size := Nat.le_of_eq (oz.size.trans ov.size)
        have frb : ∀ b, F b → b ≠ rb := fun b hb e => by have := H.out.dom b hb; have := ERB.out; omega
        have fdb : ∀ b, F b → b ≠ db := fun b hb e => NDB.out (e ▸ .inl hb)
        have gdb : G db := HS.out _ MD.out
        have grb : G rb := HS.out _ (.inl MR.out)
        have pm := PM9.out.outer hz (fun b _ hn => hall b (fun e => hn (e ▸ gdb)) (fun e => hn (e ▸ grb))) (fun b hb => hall b (fdb b (H.out.tok b hb)) (frb b (H.out.tok b hb)))
        obtain ⟨G', hG, hp', hd', hD'⟩ := pm.over LV6.out k nm
        have kf : Keep F W V := ((Kp.keep K0.out H.out.dom).trans (((E5.out.mono (fun k hk => .inl hk)).trans (E6.out.mono (fun k hk => .inl (.inl hk)))).trans (E9.out.mono (fun k hk => HS.out k (.inl (.inl hk)))))).trans ⟨ov.os.trans oz.os, ov.tape.trans oz.tape, ov.output.trans oz.output, hz, fun b hb => hall b (fdb b hb) (frb b hb)⟩
        rw [HQ.out, HR.out]
        exact ⟨_, _, G', _, rfl, fun k hk => hG k (HS.out k (.inl (.inl hk))), ⟨_, _, _, _, _, hp'⟩, hd', fun b hb => ⟨hD' b hb.2.2 hb.2.1, fun hf => hb.1 (HS.out b (.inl (.inl hf))), hb.2.2⟩, HNM.out.1, HNM.out.2, kf⟩
      clear p1 p2 w0 w1 w2 w3 g0 g1 g2 g3 v0 v1 v2 v3 u0 u1 u2 u3
      have w0 := dbZ.cell 0 rfl; have w1 := dbZ.cell 1 rfl; have w2 := dbZ.cell 2 rfl; have w3 := dbZ.cell 3 rfl
      have v0 := rbZ.cell 0 rfl; have v1 := rbZ.cell 1 rfl; have v2 := rbZ.cell 2 rfl; have v3 := rbZ.cell 3 rfl
      have u0 := rbZ.free 0; have u1 := rbZ.free 1; have u2 := rbZ.free 2; have u3 := rbZ.free 3
      have RBZ := Lib.hid rbZ
      clear oz dbZ rbZ hZ
      go_wp2_with fail
      obtain ⟨V, hV⟩ : ∃ V, V = (((Z.setCell ⟨rb, 0, none⟩ (.int .i64 (k : Nat))).setCell ⟨rb, 1, none⟩ (.string (st nm))).setCell ⟨rb, 2, none⟩ (.slice po pl pc)).setCell ⟨rb, 3, none⟩ (.slice bo bl bc) := ⟨_, rfl⟩
      rw [← hV]
      have bV : Blk V rb 38 #[.int .i64 (k : Nat), .string (st nm), .slice po pl pc, .slice bo bl bc] := by rw [hV]; exact (((RBZ.out.set 0 _).set 1 _).set 2 _).set 3 _
      exact bodyPost_ret (results_cell_row rfl _ V rb _ _ _ _ rfl bV Tryz.underlying38 rfl (by kernel_rfl)) rfl (FIN.out V hV)
  · have hki : ((k : Int) == 1) = false := beq_eq_false_iff_ne.2 (by omega)
    obtain ⟨s3, hs3⟩ : ∃ s3 : St, s3 = ⟨s2.ts, [], [], true⟩ := ⟨_, rfl⟩
    have H6 : Hid (bnd (expt [61]) (fun _ => bnd (expr n 1) fun _ => bnd (expt [59]) fun _ => fun s => some (.ok ⟨k, nm, s.ps, s.bd⟩ ⟨s.ts, [], [], false⟩)) s3 = some r) := by
      have := H4.out
      rw [if_neg hk1, ← hs3] at this
      exact this
    have LV3 : Hid (s3.lv = true) := by show _ = _; rw [hs3]
    have PX := P5.out
    rw [← hs3] at PX
    clear H4 hk1 hs3
    go_wp2_with fail
    rw [← HX.out, ← HY.out]
    clear z1 zf p1 p2 pf1 pf2 y0
    obtain ⟨G, hG⟩ : ∃ G, G = Mine (Mine F W W0) W1 W2 := ⟨_, rfl⟩
    have HS : Hid (∀ k, Mine (Mine F W W0) W1 W2 k → G k) := by show ∀ k, _; rw [hG]; exact fun _ h => h
    rw [← hG] at PX
    have P6 := Lib.hid PX
    have E6 : Hid (Keep (Mine (Mine F W W0) W1 W2) Y Y) := Keep.refl _ _
    clear PX hG
    have BADG : Hid (∀ a e W', Keep G Y W' → r = .bad a e → Q (pan a e) W') := fun a e W' hk he => BAD.out a e W' (E5.out.trans ((E6.out.trans (hk.mono HS.out)).mono (fun k hk => .inl hk))) he
    rcases bnd_some H6.out with ⟨a, e, hm, he⟩ | ⟨_, s4, hm, hk6⟩
    · have C := Lib.hid (expect_st P6.out (X := ⟨#[61]⟩) (w := [61]) rfl (lt_mem (by decide)) (by decide) hm)
      have HE := Lib.hid he
      clear hm he
      refine C.out.mono ?_
      rintro e1 W7 ⟨rfl, hk⟩
      exact ⟨rfl, BADG.out _ _ _ hk HE.out⟩
    have C := Lib.hid (expect_st P6.out (X := ⟨#[61]⟩) (w := [61]) rfl (lt_mem (by decide)) (by decide) hm)
    have H7 : Hid (bnd (expr n 1) (fun _ => bnd (expt [59]) fun _ => fun s => some (.ok ⟨k, nm, s.ps, s.bd⟩ ⟨s.ts, [], [], false⟩)) s4 = some r) := hk6
    have LV4 : Hid (s4.lv = true) := (klv_expt _ _ _ _ hm).trans LV3.out
    clear hm hk6
    refine C.out.mono ?_
    rintro e1 W7 ⟨⟨v, rfl, rfl⟩, hpi, hke⟩
    have P7 := Lib.hid hpi; have E7 := Lib.hid hke
    clear hpi hke C
    rcases bnd_some H7.out with ⟨a, e, hm, he⟩ | ⟨j, s5, hm, hk7⟩
    · have C : Hid (Calls Tryz.prog 132 #[.pointer (some ⟨p, 0, none⟩), .int .i64 1] W7 (Ans' G g p vN (.bad a e) W7)) := expr_all n 1 (Nat.le_refl 1) (by decide) G g p W7 s4 _ P7.out hm
      have HE := Lib.hid he
      clear hm he
      go_wp2_with fail
      refine C.out.mono ?_
      rintro e1 W8 ⟨rfl, hk⟩
      exact ⟨rfl, BADG.out _ _ _ (E7.out.trans hk) HE.out⟩
    have C : Hid (Calls Tryz.prog 132 #[.pointer (some ⟨p, 0, none⟩), .int .i64 1] W7 (Ans' G g p vN (.ok j s5) W7)) := expr_all n 1 (Nat.le_refl 1) (by decide) G g p W7 s4 _ P7.out hm
    have H8 : Hid (bnd (expt [59]) (fun _ => fun s => some (.ok ⟨k, nm, s.ps, s.bd⟩ ⟨s.ts, [], [], false⟩)) s5 = some r) := hk7
    have LV5 : Hid (s5.lv = true) := (klv_expr _ _ _ _ _ hm).trans LV4.out
    clear hm hk7
    go_wp2_with fail
    refine C.out.mono ?_
    rintro e1 W8 ⟨⟨v, rfl, rfl⟩, hpi, hke⟩
    have P8 := Lib.hid hpi; have E8 := Lib.hid (E7.out.trans hke)
    clear hpi hke C
    rcases bnd_some H8.out with ⟨a, e, hm, he⟩ | ⟨_, s6, hm, hk8⟩
    · have C := Lib.hid (expect_st P8.out (X := ⟨#[59]⟩) (w := [59]) rfl (lt_mem (by decide)) (by decide) hm)
      have HE := Lib.hid he
      clear hm he
      go_wp2_with fail
      refine C.out.mono ?_
      rintro e1 W9 ⟨rfl, hk⟩
      exact ⟨rfl, BADG.out _ _ _ (E8.out.trans hk) HE.out⟩
    have C := Lib.hid (expect_st P8.out (X := ⟨#[59]⟩) (w := [59]) rfl (lt_mem (by decide)) (by decide) hm)
    have HR : Hid (r = .ok ⟨k, nm, s6.ps, s6.bd⟩ ⟨s6.ts, [], [], false⟩) := by
      injection hk8 with hk8
      exact hk8.symm
    have LV6 : Hid (s6.lv = true) := (klv_expt _ _ _ _ hm).trans LV5.out
    clear hm hk8
    go_wp2_with fail
    refine C.out.mono ?_
    rintro e1 W9 ⟨⟨v, rfl, rfl⟩, hpi, hke⟩
    have E9 := Lib.hid (E8.out.trans hke)
    obtain ⟨o9, rc9, pv9, bv9, vs9, hpm9⟩ := hpi
    obtain ⟨po, pc, rfl⟩ := row_open (hpm9.pown LV6.out)
    obtain ⟨bo, bc, rfl⟩ := row_open (hpm9.bown LV6.out)
    have PM9 := Lib.hid hpm9
    obtain ⟨pl, hpl⟩ : ∃ pl, pl = s6.ps.length := ⟨_, rfl⟩
    obtain ⟨bl, hbl⟩ : ∃ bl, bl = s6.bd.length := ⟨_, rfl⟩
    rw [← hpl, ← hbl] at PM9
    have HPL := Lib.hid hpl; have HBL := Lib.hid hbl
    have db9 := (DBY.out.kept E6.out MD.out).kept E9.out (HS.out _ MD.out)
    have rb9 := ((RB.out.kept E5.out MR.out).kept E6.out (.inl MR.out)).kept E9.out (HS.out _ (.inl MR.out))
    have DB9 := Lib.hid db9; have RB9 := Lib.hid rb9
    obtain ⟨Wd, hWd⟩ : ∃ Wd, Wd = W9.drew := ⟨_, rfl⟩
    have p1 := PM9.out.blk.cell 1 rfl; have p2 := PM9.out.blk.cell 2 rfl
    have w0 := db9.cell 0 rfl; have w1 := db9.cell 1 rfl; have w2 := db9.cell 2 rfl; have w3 := db9.cell 3 rfl
    have g0 := db9.free 0; have g1 := db9.free 1; have g2 := db9.free 2; have g3 := db9.free 3
    have v0 := rb9.cell 0 rfl; have v1 := rb9.cell 1 rfl; have v2 := rb9.cell 2 rfl; have v3 := rb9.cell 3 rfl
    have u0 := rb9.free 0; have u1 := rb9.free 1; have u2 := rb9.free 2; have u3 := rb9.free 3
    have np1 : ¬ (db = p) := NP.out
    have np2 : ¬ (p = db) := fun e => NP.out e.symm
    clear hke C hpm9 hpl hbl db9 rb9 hWd
    go_wp2_with fail
    go_region
    all_goals
      obtain ⟨Z, hZ⟩ : ∃ Z, Z = ((W9.setCell ⟨db, 2, none⟩ (.slice po pl pc)).setCell ⟨db, 3, none⟩ (.slice bo bl bc)).drew := ⟨_, rfl⟩
      rw [← hZ]
      have oz : Only db W9 Z := by
        have h0 := ((Only.refl db W9).set 2 (.slice po pl pc)).set 3 (.slice bo bl bc)
        rw [hZ]
        exact ⟨h0.os, h0.tape, h0.output, h0.size, h0.block⟩
      have dbZ : Blk Z db 38 #[.int .i64 (k : Nat), .string (st nm), .slice po pl pc, .slice bo bl bc] := by rw [hZ]; exact (DB9.out.set 2 _).set 3 _
      have rbZ : Blk Z rb 38 #[.int .i64 0, .string ⟨#[]⟩, .slice none 0 0, .slice none 0 0] := (oz.block rb (fun e => NDB.out (e ▸ MR.out))).trans RB9.out
      have FIN : Hid (∀ V, V = (((Z.setCell ⟨rb, 0, none⟩ (.int .i64 (k : Nat))).setCell ⟨rb, 1, none⟩ (.string (st nm))).setCell ⟨rb, 2, none⟩ (.slice po pl pc)).setCell ⟨rb, 3, none⟩ (.slice bo bl bc) → Q (.returned (.agg #[.int .i64 (k : Nat), .string (st nm), .slice po pl pc, .slice bo bl bc])) V) := by
        intro V hV
        have ov : Only rb Z V := by rw [hV]; exact ((((Only.refl _ Z).set 0 _).set 1 _).set 2 _).set 3 _
        have hall : ∀ b, b ≠ db → b ≠ rb → V.heap[b]? = W9.heap[b]? := fun b h1 h2 => (ov.block b h2).trans (oz.block b h1)
        have hz : W9.heap.size ≤ V.heap.size := Nat.le_of_eq (oz.size.trans ov.size)
        have frb : ∀ b, F b → b ≠ rb := fun b hb e => by have := H.out.dom b hb; have := ERB.out; omega
        have fdb : ∀ b, F b → b ≠ db := fun b hb e => NDB.out (e ▸ .inl hb)
        have gdb : G db := HS.out _ MD.out
        have grb : G rb := HS.out _ (.inl MR.out)
        have pm := PM9.out.outer hz (fun b _ hn => hall b (fun e => hn (e ▸ gdb)) (fun e => hn (e ▸ grb))) (fun b hb => hall b (fdb b (H.out.tok b hb)) (frb b (H.out.tok b hb)))
        obtain ⟨G', hG, hp', hd', hD'⟩ := pm.over LV6.out k nm
        have kf : Keep F W V := ((Kp.keep K0.out H.out.dom).trans (((E5.out.mono (fun k hk => .inl hk)).trans (E6.out.mono (fun k hk => .inl (.inl hk)))).trans (E9.out.mono (fun k hk => HS.out k (.inl (.inl hk)))))).trans ⟨ov.os.trans oz.os, ov.tape.trans oz.tape, ov.output.trans oz.output, hz, fun b hb => hall b (fdb b hb) (frb b hb)⟩
        rw [HQ.out, HR.out]
        exact ⟨_, _, G', _, rfl, fun k hk => hG k (HS.out k (.inl (.inl hk))), ⟨_, _, _, _, _, hp'⟩, hd', fun b hb => ⟨hD' b hb.2.2 hb.2.1, fun hf => hb.1 (HS.out b (.inl (.inl hf))), hb.2.2⟩, HNM.out.1, HNM.out.2, kf⟩
      clear p1 p2 w0 w1 w2 w3 g0 g1 g2 g3 v0 v1 v2 v3 u0 u1 u2 u3
      have w0 := dbZ.cell 0 rfl; have w1 := dbZ.cell 1 rfl; have w2 := dbZ.cell 2 rfl; have w3 := dbZ.cell 3 rfl
      have v0 := rbZ.cell 0 rfl; have v1 := rbZ.cell 1 rfl; have v2 := rbZ.cell 2 rfl; have v3 := rbZ.cell 3 rfl
      have u0 := rbZ.free 0; have u1 := rbZ.free 1; have u2 := rbZ.free 2; have u3 := rbZ.free 3
      have RBZ := Lib.hid rbZ
      clear oz dbZ rbZ hZ
      go_wp2_with fail
      obtain ⟨V, hV⟩ : ∃ V, V = (((Z.setCell ⟨rb, 0, none⟩ (.int .i64 (k : Nat))).setCell ⟨rb, 1, none⟩ (.string (st nm))).setCell ⟨rb, 2, none⟩ (.slice po pl pc)).setCell ⟨rb, 3, none⟩ (.slice bo bl bc) := ⟨_, rfl⟩
      rw [← hV]
      have bV : Blk V rb 38 #[.int .i64 (k : Nat), .string (st nm), .slice po pl pc, .slice bo bl bc] := by rw [hV]; exact (((RBZ.out.set 0 _).set 1 _).set 2 _).set 3 _
      exact bodyPost_ret (results_cell_row rfl _ V rb _ _ _ _ rfl bV Tryz.underlying38 rfl (by kernel_rfl)) rfl (FIN.out V hV)
end By
end Go.Proofs.YtmflgfojicaecaaGreatDoor
