/- The closure by which the parser gathers arguments. Condition: the parser and the closure's variables lie in memory as they are named. -/
import Derived.Test.YtmflgfojicaecaaGreatDoorMSc
namespace Go.Proofs.YtmflgfojicaecaaGreatDoor
namespace By
open Go.RowKit WireN LexN SrcN
set_option linter.unusedVariables false
set_option linter.unusedSimpArgs false

theorem infoI : (Tryz.prog.info? 3).map (fun i => (i.zero, i.size, i.bytes)) = some (some (.int .i64 0), 1, 8) := by kernel_rfl
/-- One integer in a slice of its own, as a step of a region. -/
theorem step_bldI {wx : World} {ops : Array Oper} {o : Oper} {a : Act} {K : Act → World → Prop} {Q : Exit → Act → World → Prop} {E : Prop} (hgd : o.guard = none) (k j : Tmp)
    (ho : o.op = .buildSlice 22 1 #[(0, .tmp j)]) (hdst : o.dst = some k) {u : Int} (hx : a.eval (.tmp j) = .int .i64 u)
    (h : ∀ w', w' = wx.alloc (.cells #[.int .i64 u] 3) → K (a.put (some k) (.slice (some ⟨wx.heap.size, 0, none⟩) 1 1)) w') :
    if Region.wanted o (yielded ops a.tmps) = true then Oper.wp Tryz.prog o a wx K Q else E := by
  have hw : Region.wanted o (yielded ops a.tmps) = true := by simp [Region.wanted, hgd]
  rw [if_pos hw]
  have hP := h _ rfl
  unfold Oper.wp
  have hx' : a.tmps[j]?.getD undef = .int .i64 u := by simpa [Act.eval] using hx
  simp [execOp, ho, resolve, hdst, hx', go_sem, Result.andThen]
  exact hP
/-- What the closure's variables hold. -/
structure Use1 (F : Nat → Prop) (p d nb pb db tb : Nat) (K NM AT : Nat) (T N : ByteArray) (xs : List Nat) (G : Nat → Prop) (W : World) : Prop where
  ex : ∃ ao ac, Blk W nb 57 #[.int .i64 3, .int .i64 0, .int .i64 0, .string N, .slice ao xs.length ac] ∧ W.ownsRow 0 3 1 (.slice ao xs.length ac) xs.length (xs.map fun x => Value.int .i64 (x : Nat)) ∧ ∀ b, (Value.slice ao xs.length ac).ownBlock = some b → G b ∧ ¬ F b ∧ b ≠ nb ∧ b ≠ pb ∧ b ≠ db ∧ b ≠ tb
  pbk : Blk W pb 122 #[.pointer (some ⟨p, 0, none⟩)]
  dbk : Blk W db 3 #[.int .i64 (d : Nat)]
  tbk : Blk W tb 111 #[.int .i64 (K : Nat), .string T, .int .i64 (NM : Nat), .int .i64 (AT : Nat)]
  inG : G nb ∧ G pb ∧ G db ∧ G tb
  nF : ¬ F nb ∧ ¬ F pb ∧ ¬ F db ∧ ¬ F tb
  ne : nb ≠ pb ∧ nb ≠ db ∧ nb ≠ tb ∧ pb ≠ db ∧ pb ≠ tb ∧ db ≠ tb
theorem Use1.keep {F : Nat → Prop} {p d nb pb db tb K NM AT : Nat} {T N : ByteArray} {xs : List Nat} {G : Nat → Prop} {W W' : World} (h : Use1 F p d nb pb db tb K NM AT T N xs G W) (hk : Keep G W W') : Use1 F p d nb pb db tb K NM AT T N xs G W' := by
  obtain ⟨⟨ao, ac, h1, h2, h3⟩, h4, h5, h6, h7, h8, h9⟩ := h
  exact ⟨⟨ao, ac, h1.kept hk h7.1, own_keep h2 (fun b hv => hk.block b (h3 b hv).1), h3⟩, h4.kept hk h7.2.1, h5.kept hk h7.2.2.1, h6.kept hk h7.2.2.2, h7, h8, h9⟩
set_option maxRecDepth 100000 in
set_option maxHeartbeats 2000000 in
theorem use1_any {F G : Nat → Prop} {g p d nb pb db tb K NM AT : Nat} {T N : ByteArray} {xs : List Nat} {W : World} {s : St} (hd : d ≤ 40) (hF : ∀ k, F k → G k) (hB : ∀ b, Bs g b → F b) (h : PI G g p W s) (hst : Use1 F p d nb pb db tb K NM AT T N xs G W) {rec' : Nat → P Nat} (sub : Part 132 (rec' (d + 1)) [.int .i64 ((d + 1 : Nat) : Int)]) {r : Out (List Nat)} (hr : argsS rec' d xs s = some r) :
    Calls Tryz.prog 185 #[.pointer (some ⟨nb, 0, none⟩), .pointer (some ⟨pb, 0, none⟩), .pointer (some ⟨db, 0, none⟩)] W (AnsL F g p (Use1 F p d nb pb db tb K NM AT T N) r W) := by
  have SUB : Hid (∀ (F : Nat → Prop) (g p : Nat) (W : World) (s : St) (r : Out Nat), PI F g p W s → rec' (d + 1) s = some r → Calls Tryz.prog 132 #[.pointer (some ⟨p, 0, none⟩), .int .i64 ((d + 1 : Nat) : Int)] W (Ans' F g p vN r W)) := sub
  unfold argsS at hr
  by_cases hx : 20000 ≤ xs.length
  · rw [if_pos hx] at hr; cases hr
  rw [if_neg hx] at hr
  obtain ⟨Q, hQ⟩ : ∃ Q, Q = AnsL F g p (Use1 F p d nb pb db tb K NM AT T N) r W := ⟨_, rfl⟩
  rw [← hQ]
  have HQ := Lib.hid hQ
  have H := Lib.hid h; have HST := Lib.hid hst; have HFG := Lib.hid hF; have HBF := Lib.hid hB
  obtain ⟨ao, ac, hnb, hrow, hown⟩ := hst.ex
  have HNB := Lib.hid hnb; have HROW := Lib.hid hrow; have HOWN := Lib.hid hown
  obtain ⟨xl, hxl⟩ : ∃ xl, xl = xs.length := ⟨_, rfl⟩
  rw [← hxl] at HNB HROW HOWN
  have HXL := Lib.hid hxl
  have hx20 : xl < 20000 := by omega
  have hwr : IntKind.i64.wrap ((d : Int) + 1) = (d : Int) + 1 := Go.IntWalk.i64_in _ (by omega)
  clear sub hQ h hst hF hB hnb hrow hown hxl hx
  have BASE : Hid (∀ W4, W4 = World.drew W → Kp W W4 ∧ W4.cell? ⟨nb, 4, none⟩ = some (.slice ao xl ac) ∧ W4.cell? ⟨pb, 0, none⟩ = some (.pointer (some ⟨p, 0, none⟩)) ∧ W4.cell? ⟨db, 0, none⟩ = some (.int .i64 (d : Nat))) := by
    intro W4 e
    have k : Kp W W4 := by rw [e]; exact kp_drew W
    exact ⟨k, (HNB.out.keep k).cell 4 rfl, (HST.out.pbk.keep k).cell 0 rfl, (HST.out.dbk.keep k).cell 0 rfl⟩
  rcases bnd_some hr with ⟨a, e, hm, rfl⟩ | ⟨i, s', hm, hk2⟩
  · have CB : Hid (∀ W4, Kp W W4 → Calls Tryz.prog 132 #[.pointer (some ⟨p, 0, none⟩), .int .i64 ((d + 1 : Nat) : Int)] W4 (Ans' G g p vN (.bad a e) W4)) := fun W4 k => SUB.out G g p W4 s _ (H.out.kp k) hm
    have FB : Hid (∀ W4 W5, Kp W W4 → Keep G W4 W5 → Q (pan a e) W5) := by
      intro W4 W5 k hk
      rw [HQ.out]
      exact ⟨rfl, ((Kp.keep k H.out.dom).trans hk).mono HFG.out⟩
    clear hr hm
    go_enter Tryz.func185, Tryz.ntmps185
    go_upto_region 0 with fail
    obtain ⟨W4, hW4⟩ : ∃ W4, W4 = World.drew W := ⟨_, rfl⟩
    obtain ⟨KW4, a4, pp4, dd4⟩ := BASE.out W4 hW4
    refine wp_region_held_drew (S := (fun w' => w'.cell? ⟨pb, 0, none⟩ = some (.pointer (some ⟨p, 0, none⟩)) ∧ w'.cell? ⟨db, 0, none⟩ = some (.int .i64 (d : Nat)))) (by kernel_rfl) ?_ (fun hHeld => ?_)
    · rw [← hW4]; exact ⟨pp4, dd4⟩
    rw [← hW4] at hHeld ⊢
    clear hW4
    refine wpAnyH_take (i := 0) (v := (.pointer (some ⟨nb, 4, none⟩))) rfl (by kernel_rfl) (by kernel_rfl) (by kernel_rfl) (fun _ _ _ h => h) (Or.inl ⟨by rfl, ?_⟩) (by assumption) ?_
    · (intro wq hSw; obtain ⟨s0, s1⟩ := hSw; go_simp; try exact hwr)
    try simp only [Act.put, List.setIfInBounds_toArray, List.set_cons_zero, List.set_cons_succ]
    refine wpAnyH_take (i := 2) (v := (.pointer (some ⟨p, 0, none⟩))) rfl (by kernel_rfl) (by kernel_rfl) (by kernel_rfl) (fun _ _ _ h => h) (Or.inl ⟨by rfl, ?_⟩) (by assumption) ?_
    · (intro wq hSw; obtain ⟨s0, s1⟩ := hSw; go_simp; try exact hwr)
    try simp only [Act.put, List.setIfInBounds_toArray, List.set_cons_zero, List.set_cons_succ]
    refine wpAnyH_take (i := 3) (v := (.int .i64 (d : Nat))) rfl (by kernel_rfl) (by kernel_rfl) (by kernel_rfl) (fun _ _ _ h => h) (Or.inl ⟨by rfl, ?_⟩) (by assumption) ?_
    · (intro wq hSw; obtain ⟨s0, s1⟩ := hSw; go_simp; try exact hwr)
    try simp only [Act.put, List.setIfInBounds_toArray, List.set_cons_zero, List.set_cons_succ]
    refine wpAnyH_take (i := 4) (v := (.int .i64 ((d : Int) + 1))) rfl (by kernel_rfl) (by kernel_rfl) (by kernel_rfl) (fun _ _ _ h => h) (Or.inl ⟨by rfl, ?_⟩) (by assumption) ?_
    · (intro wq hSw; obtain ⟨s0, s1⟩ := hSw; go_simp; try exact hwr)
    try simp only [Act.put, List.setIfInBounds_toArray, List.set_cons_zero, List.set_cons_succ]
    clear hHeld
    refine wpAnyH_ready (rs := [1, 5]) (by kernel_rfl) (by simp) (AllReadyH.cons rfl (fun KK hK => ?_) (AllReadyH.cons rfl (fun KK hK => ?_) AllReadyH.nil))
    · go_simp
      refine hK.out _ _ ⟨by assumption, by assumption⟩ (fun hHeld => ?_)
      clear hHeld hK KK
      try simp only [Act.put, List.setIfInBounds_toArray, List.set_cons_zero, List.set_cons_succ]
      refine wpAnyH_ready (rs := [5]) (by kernel_rfl) (by simp) (AllReadyH.cons rfl (fun KK hK => ?_) AllReadyH.nil)
      go_simp
      go_at_call 132
      refine (CB.out W4 KW4).mono ?_
      rintro e1 W5 ⟨rfl, hk5⟩
      exact ⟨rfl, FB.out W4 W5 KW4 hk5⟩
    · go_simp
      go_at_call 132
      refine (CB.out W4 KW4).mono ?_
      rintro e1 W5 ⟨rfl, hk5⟩
      exact ⟨rfl, FB.out W4 W5 KW4 hk5⟩
  · have CB : Hid (∀ W4, Kp W W4 → Calls Tryz.prog 132 #[.pointer (some ⟨p, 0, none⟩), .int .i64 ((d + 1 : Nat) : Int)] W4 (Ans' G g p vN (.ok i s') W4)) := fun W4 k => SUB.out G g p W4 s _ (H.out.kp k) hm
    have hr2 : r = .ok (xs ++ [i]) s' := by
      unfold ret at hk2
      injection hk2 with hk2
      exact hk2.symm
    have HR := Lib.hid hr2
    have CK : Hid (∀ W4 W5, Kp W W4 → Keep G W4 W5 → W5.cell? ⟨nb, 4, none⟩ = some (.slice ao xl ac) ∧ W5.cell? ⟨pb, 0, none⟩ = some (.pointer (some ⟨p, 0, none⟩)) ∧ W5.cell? ⟨db, 0, none⟩ = some (.int .i64 (d : Nat))) := fun W4 W5 k hk => ⟨((HNB.out.keep k).kept hk HST.out.inG.1).cell 4 rfl, ((HST.out.pbk.keep k).kept hk HST.out.inG.2.1).cell 0 rfl, ((HST.out.dbk.keep k).kept hk HST.out.inG.2.2.1).cell 0 rfl⟩
    have AL : Hid (∀ W4 W5 W6, Kp W W4 → Keep G W4 W5 → W6 = W5.alloc (.cells #[.int .i64 (i : Nat)] 3) → W6.cell? ⟨nb, 4, none⟩ = some (.slice ao xl ac) ∧ W6.ownsRow 0 3 1 (.slice ao xl ac) xl (xs.map fun x => Value.int .i64 (x : Nat)) ∧ W6.cell? ⟨W5.heap.size, 0, none⟩ = some (.int .i64 (i : Nat)) ∧ W6.cell? ⟨pb, 0, none⟩ = some (.pointer (some ⟨p, 0, none⟩)) ∧ W6.cell? ⟨db, 0, none⟩ = some (.int .i64 (d : Nat))) := by
      intro W4 W5 W6 k hk e
      have k6 : Kp W5 W6 := by rw [e]; exact kp_alloc W5 _
      have b : Blk W6 W5.heap.size 3 #[.int .i64 (i : Nat)] := by rw [e]; exact Blk.new _ _ _
      refine ⟨(((HNB.out.keep k).kept hk HST.out.inG.1).keep k6).cell 4 rfl, own_keep HROW.out (fun b hv => ?_), b.cell 0 rfl, (((HST.out.pbk.keep k).kept hk HST.out.inG.2.1).keep k6).cell 0 rfl, (((HST.out.dbk.keep k).kept hk HST.out.inG.2.2.1).keep k6).cell 0 rfl⟩
      have h1 := (HROW.out.lt b hv).2
      have h2 := hk.block b (HOWN.out b hv).1
      exact (k6.block b (Nat.lt_of_lt_of_le h1 (Nat.le_trans k.size hk.size))).trans (h2.trans (k.block b h1))
    have GR : Hid (∀ W4 W5 W6 W7 v7, Kp W W4 → Keep G W4 W5 → W6 = W5.alloc (.cells #[.int .i64 (i : Nat)] 3) → W6.grownBy W7 (Value.slice ao xl ac).ownBlock → W7.frozen? ⟨nb, 4, none⟩ = false ∧ W7.cell? ⟨nb, 4, none⟩ = some (.slice ao xl ac) ∧ W7.cell? ⟨pb, 0, none⟩ = some (.pointer (some ⟨p, 0, none⟩)) ∧ W7.cell? ⟨db, 0, none⟩ = some (.int .i64 (d : Nat)) ∧ (W7.setCell ⟨nb, 4, none⟩ v7).cell? ⟨pb, 0, none⟩ = some (.pointer (some ⟨p, 0, none⟩)) ∧ (W7.setCell ⟨nb, 4, none⟩ v7).cell? ⟨db, 0, none⟩ = some (.int .i64 (d : Nat))) := by
      intro W4 W5 W6 W7 v7 k hk e g7
      have k6 : Kp W5 W6 := by rw [e]; exact kp_alloc W5 _
      have b6 := ((HNB.out.keep k).kept hk HST.out.inG.1).keep k6
      have b7 : Blk W7 nb 57 #[.int .i64 3, .int .i64 0, .int .i64 0, .string N, .slice ao xl ac] := (g7.block nb b6.lt (fun e => (HOWN.out nb e.symm).2.2.1 rfl)).trans b6
      have p6 := ((HST.out.pbk.keep k).kept hk HST.out.inG.2.1).keep k6
      have p7 : Blk W7 pb 122 #[.pointer (some ⟨p, 0, none⟩)] := (g7.block pb p6.lt (fun e => (HOWN.out pb e.symm).2.2.2.1 rfl)).trans p6
      have d6 := ((HST.out.dbk.keep k).kept hk HST.out.inG.2.2.1).keep k6
      have d7 : Blk W7 db 3 #[.int .i64 (d : Nat)] := (g7.block db d6.lt (fun e => (HOWN.out db e.symm).2.2.2.2.1 rfl)).trans d6
      have ox : Only nb W7 (W7.setCell ⟨nb, 4, none⟩ v7) := (Only.refl _ W7).set 4 _
      have p8 : Blk (W7.setCell ⟨nb, 4, none⟩ v7) pb 122 #[.pointer (some ⟨p, 0, none⟩)] := (ox.block pb (fun e => HST.out.ne.1 e.symm)).trans p7
      have d8 : Blk (W7.setCell ⟨nb, 4, none⟩ v7) db 3 #[.int .i64 (d : Nat)] := (ox.block db (fun e => HST.out.ne.2.1 e.symm)).trans d7
      exact ⟨b7.free 4, b7.cell 4 rfl, p7.cell 0 rfl, d7.cell 0 rfl, p8.cell 0 rfl, d8.cell 0 rfl⟩
    have FIN : Hid (∀ W4 W5 W6 W7 v7, Kp W W4 → PI G g p W5 s' → Keep G W4 W5 → W6 = W5.alloc (.cells #[.int .i64 (i : Nat)] 3) → W7.ownsRow 0 3 1 v7 (xl + 1) ((xs.map fun x => Value.int .i64 (x : Nat)) ++ [.int .i64 (i : Nat)]) → W6.grownBy W7 (Value.slice ao xl ac).ownBlock → (v7.ownBlock = (Value.slice ao xl ac).ownBlock ∨ v7.ownBlock = some W6.heap.size) → Q (.returned (.tuple #[])) (W7.setCell ⟨nb, 4, none⟩ v7)) := by
      intro W4 W5 W6 W7 v7 k hpi hk e r7 g7 h7
      have k6 : Kp W5 W6 := by rw [e]; exact kp_alloc W5 _
      have hz6 : W6.heap.size = W5.heap.size + 1 := by rw [e]; simp
      obtain ⟨bo, bc, rfl⟩ := row_open r7
      obtain ⟨X, hX⟩ : ∃ X, X = W7.setCell ⟨nb, 4, none⟩ (.slice bo (xl + 1) bc) := ⟨_, rfl⟩
      rw [← hX]
      have ox : Only nb W7 X := by rw [hX]; exact (Only.refl _ W7).set 4 _
      have hz : W5.heap.size ≤ X.heap.size := by have := g7.size; have := ox.size; omega
      have hWz : W.heap.size ≤ W5.heap.size := Nat.le_trans k.size hk.size
      have hdG : ∀ b, G b → b < W.heap.size := H.out.dom
      have hc : ∀ b, b < W5.heap.size → b ≠ nb → (Value.slice ao xl ac).ownBlock ≠ some b → X.heap[b]? = W5.heap[b]? := fun b hb h1 h2 => (ox.block b h1).trans ((g7.block b (by omega) (fun e => h2 e.symm)).trans (k6.block b hb))
      have hcF : ∀ b, F b → X.heap[b]? = W5.heap[b]? := fun b hb => hc b (Nat.lt_of_lt_of_le (hdG b (HFG.out b hb)) hWz) (fun e => HST.out.nF.1 (e ▸ hb)) (fun e => (HOWN.out b e).2.1 hb)
      have hnew : ∀ b, (Value.slice bo (xl + 1) bc).ownBlock = some b → (Value.slice ao xl ac).ownBlock = some b ∨ b = W6.heap.size := fun b hb => by
        rcases h7 with h7 | h7
        · exact .inl (h7 ▸ hb)
        · rw [h7] at hb; injection hb with hb; exact .inr hb.symm
      have hlt7 : ∀ b, (Value.slice bo (xl + 1) bc).ownBlock = some b → b < X.heap.size := fun b hb => by have := (r7.lt b hb).2; have := ox.size; omega
      obtain ⟨o, rc, pv, bv, vs, hpm⟩ := hpi
      have hpm' := hpm.wide hz (fun b hb hn => hc b hb (fun e => hn (e ▸ HST.out.inG.1)) (fun e => hn (HOWN.out b e).1)) (fun b hb => hcF b (HBF.out b hb))
      have bnb : Blk X nb 57 #[.int .i64 3, .int .i64 0, .int .i64 0, .string N, .slice bo (xl + 1) bc] := by
        have b6 := ((HNB.out.keep k).kept hk HST.out.inG.1).keep k6
        have b7 : Blk W7 nb 57 #[.int .i64 3, .int .i64 0, .int .i64 0, .string N, .slice ao xl ac] := (g7.block nb b6.lt (fun e => (HOWN.out nb e.symm).2.2.1 rfl)).trans b6
        rw [hX]
        exact b7.set 4 _
      have keepB : ∀ {b : Nat} {t : TypeId} {cs : Array Value}, Blk W b t cs → G b → b ≠ nb → (Value.slice ao xl ac).ownBlock ≠ some b → Blk X b t cs := fun {b t cs} hb hg h1 h2 => (hc b (Nat.lt_of_lt_of_le hb.lt hWz) h1 h2).trans ((hb.keep k).kept hk hg)
      have hel : (xs ++ [i]).length = xl + 1 := by have := HXL.out; simp; omega
      rw [HQ.out, HR.out]
      refine ⟨rfl, _, fun k hk => .inl (HFG.out k hk), ⟨_, _, _, _, _, hpm'⟩, ?_, ?_⟩
      · refine ⟨⟨bo, bc, ?_, ?_, ?_⟩, keepB HST.out.pbk HST.out.inG.2.1 (fun e => HST.out.ne.1 e.symm) (fun e => (HOWN.out pb e).2.2.2.1 rfl), keepB HST.out.dbk HST.out.inG.2.2.1 (fun e => HST.out.ne.2.1 e.symm) (fun e => (HOWN.out db e).2.2.2.2.1 rfl), keepB HST.out.tbk HST.out.inG.2.2.2 (fun e => HST.out.ne.2.2.1 e.symm) (fun e => (HOWN.out tb e).2.2.2.2.2 rfl), ⟨.inl HST.out.inG.1, .inl HST.out.inG.2.1, .inl HST.out.inG.2.2.1, .inl HST.out.inG.2.2.2⟩, HST.out.nF, HST.out.ne⟩
        · rw [hel]; exact bnb
        · rw [hel]
          have : (xs ++ [i]).map (fun x => Value.int .i64 (x : Nat)) = (xs.map fun x => Value.int .i64 (x : Nat)) ++ [.int .i64 (i : Nat)] := by simp
          rw [this]
          refine own_keep r7 (fun b hb => ox.block b (fun e => ?_))
          subst e
          rcases hnew _ hb with hb | hb
          · exact (HOWN.out _ hb).2.2.1 rfl
          · have := hdG _ HST.out.inG.1; omega
        · rw [hel]
          intro b hb
          rcases hnew b hb with h1 | h1
          · have := HOWN.out b h1
            exact ⟨.inl this.1, this.2⟩
          · have l1 := hlt7 b hb
            have g1 := hdG _ HST.out.inG.1; have g2 := hdG _ HST.out.inG.2.1; have g3 := hdG _ HST.out.inG.2.2.1; have g4 := hdG _ HST.out.inG.2.2.2
            exact ⟨.inr ⟨by omega, l1⟩, fun hf => absurd (hdG b (HFG.out b hf)) (by omega), by omega, by omega, by omega, by omega⟩
      · refine (((Kp.keep k H.out.dom).trans hk).mono HFG.out).trans ⟨ox.os.trans (g7.os.trans k6.os), ox.tape.trans (g7.tape.trans k6.tape), ox.output.trans (g7.output.trans k6.output), hz, hcF⟩
    clear hr hm hk2 hr2
    go_enter Tryz.func185, Tryz.ntmps185
    go_upto_region 0 with fail
    obtain ⟨W4, hW4⟩ : ∃ W4, W4 = World.drew W := ⟨_, rfl⟩
    obtain ⟨KW4, a4, pp4, dd4⟩ := BASE.out W4 hW4
    refine wp_region_held_drew (S := (fun w' => w'.cell? ⟨pb, 0, none⟩ = some (.pointer (some ⟨p, 0, none⟩)) ∧ w'.cell? ⟨db, 0, none⟩ = some (.int .i64 (d : Nat)))) (by kernel_rfl) ?_ (fun hHeld => ?_)
    · rw [← hW4]; exact ⟨pp4, dd4⟩
    rw [← hW4] at hHeld ⊢
    clear hW4
    refine wpAnyH_take (i := 0) (v := (.pointer (some ⟨nb, 4, none⟩))) rfl (by kernel_rfl) (by kernel_rfl) (by kernel_rfl) (fun _ _ _ h => h) (Or.inl ⟨by rfl, ?_⟩) (by assumption) ?_
    · (intro wq hSw; obtain ⟨s0, s1⟩ := hSw; go_simp; try exact hwr)
    try simp only [Act.put, List.setIfInBounds_toArray, List.set_cons_zero, List.set_cons_succ]
    refine wpAnyH_take (i := 2) (v := (.pointer (some ⟨p, 0, none⟩))) rfl (by kernel_rfl) (by kernel_rfl) (by kernel_rfl) (fun _ _ _ h => h) (Or.inl ⟨by rfl, ?_⟩) (by assumption) ?_
    · (intro wq hSw; obtain ⟨s0, s1⟩ := hSw; go_simp; try exact hwr)
    try simp only [Act.put, List.setIfInBounds_toArray, List.set_cons_zero, List.set_cons_succ]
    refine wpAnyH_take (i := 3) (v := (.int .i64 (d : Nat))) rfl (by kernel_rfl) (by kernel_rfl) (by kernel_rfl) (fun _ _ _ h => h) (Or.inl ⟨by rfl, ?_⟩) (by assumption) ?_
    · (intro wq hSw; obtain ⟨s0, s1⟩ := hSw; go_simp; try exact hwr)
    try simp only [Act.put, List.setIfInBounds_toArray, List.set_cons_zero, List.set_cons_succ]
    refine wpAnyH_take (i := 4) (v := (.int .i64 ((d : Int) + 1))) rfl (by kernel_rfl) (by kernel_rfl) (by kernel_rfl) (fun _ _ _ h => h) (Or.inl ⟨by rfl, ?_⟩) (by assumption) ?_
    · (intro wq hSw; obtain ⟨s0, s1⟩ := hSw; go_simp; try exact hwr)
    try simp only [Act.put, List.setIfInBounds_toArray, List.set_cons_zero, List.set_cons_succ]
    clear hHeld
    refine wpAnyH_ready (rs := [1, 5]) (by kernel_rfl) (by simp) (AllReadyH.cons rfl (fun KK hK => ?_) (AllReadyH.cons rfl (fun KK hK => ?_) AllReadyH.nil))
    · go_simp
      refine hK.out _ _ ⟨by assumption, by assumption⟩ (fun hHeld => ?_)
      clear hHeld hK KK
      try simp only [Act.put, List.setIfInBounds_toArray, List.set_cons_zero, List.set_cons_succ]
      refine wpAnyH_ready (rs := [5]) (by kernel_rfl) (by simp) (AllReadyH.cons rfl (fun KK hK => ?_) AllReadyH.nil)
      go_simp
      go_at_call 132
      refine (CB.out W4 KW4).mono ?_
      rintro e1 W5 ⟨⟨v5, rfl, rfl⟩, hpi5, hke5⟩
      obtain ⟨a5, pp5, dd5⟩ := CK.out W4 W5 KW4 hke5
      go_wp2_with fail
      refine hK.out _ _ ⟨by assumption, by assumption⟩ (fun hHeld => ?_)
      clear hHeld hK KK
      try simp only [Act.put, List.setIfInBounds_toArray, List.set_cons_zero, List.set_cons_succ]
      refine wpAnyH_ready (rs := [6]) (by kernel_rfl) (by simp) (AllReadyH.cons rfl (fun KK hK => ?_) AllReadyH.nil)
      refine step_bldI rfl 9 8 rfl rfl rfl ?_
      intro W6 hW6
      obtain ⟨a6, rr6, i6, pp6, dd6⟩ := AL.out W4 W5 W6 KW4 hke5 hW6
      have HW6 := Lib.hid hW6
      clear hW6
      refine hK.out _ _ ⟨by assumption, by assumption⟩ (fun hHeld => ?_)
      clear hHeld hK KK
      try simp only [Act.put, List.setIfInBounds_toArray, List.set_cons_zero, List.set_cons_succ]
      refine wpAnyH_ready (rs := [7]) (by kernel_rfl) (by simp) (AllReadyH.cons rfl (fun KK hK => ?_) AllReadyH.nil)
      refine step_row rfl (.tmp 4) (.tmp 9) 22 rfl 0 3 _ 1 8 Tryz.underlying22 infoI rfl (by omega) _ xl (xs.map fun x => Value.int .i64 (x : Nat)) rfl rr6 ⟨W5.heap.size, 0, none⟩ 1 1 [.int .i64 (i : Nat)] rfl rfl ?_ (by intro u hu; simp at hu; subst hu; rfl) (by unfold maxLen; omega) (by omega) (Nat.zero_le _) ?_
      · (intro j u hu; rw [Addr.add_lit, Nat.zero_add]; match j, hu with | 0, hu => (injection hu with hu; rw [← hu]; exact i6))
      intro v7 W7 r7 g7 h7
      obtain ⟨b7, c7, rfl⟩ := row_open r7
      obtain ⟨fp, cp, pp7, dd7, pp8, dd8⟩ := GR.out W4 W5 W6 W7 (.slice b7 (xl + 1) c7) KW4 hke5 HW6.out g7
      have F7 := Lib.hid (FIN.out W4 W5 W6 W7 _ KW4 hpi5 hke5 HW6.out r7 g7 h7)
      clear r7 g7 h7 HW6 rr6 i6 a6
      refine hK.out _ _ ⟨by assumption, by assumption⟩ (fun hHeld => ?_)
      clear hHeld hK KK
      try simp only [Act.put, List.setIfInBounds_toArray, List.set_cons_zero, List.set_cons_succ]
      refine wpAnyH_ready (rs := [8]) (by kernel_rfl) (by simp) (AllReadyH.cons rfl (fun KK hK => ?_) AllReadyH.nil)
      go_simp
      refine hK.out _ _ ⟨by assumption, by assumption⟩ (fun hHeld => ?_)
      clear hHeld hK KK
      try simp only [Act.put, List.setIfInBounds_toArray, List.set_cons_zero, List.set_cons_succ]
      refine wpAnyH_ready (rs := [9]) (by kernel_rfl) (by simp) (AllReadyH.cons rfl (fun KK hK => ?_) AllReadyH.nil)
      go_simp
      refine hK.out _ _ ⟨by assumption, by assumption⟩ (fun hHeld => ?_)
      clear hHeld hK KK
      try simp only [Act.put, List.setIfInBounds_toArray, List.set_cons_zero, List.set_cons_succ]
      refine wpAnyH_done (by kernel_rfl) ?_ _
      go_wp2_with fail
      exact ⟨rfl, _, results_none rfl _ _ _, F7.out⟩
    · go_simp
      go_at_call 132
      refine (CB.out W4 KW4).mono ?_
      rintro e1 W5 ⟨⟨v5, rfl, rfl⟩, hpi5, hke5⟩
      obtain ⟨a5, pp5, dd5⟩ := CK.out W4 W5 KW4 hke5
      go_wp2_with fail
      refine hK.out _ _ ⟨by assumption, by assumption⟩ (fun hHeld => ?_)
      clear hHeld hK KK
      try simp only [Act.put, List.setIfInBounds_toArray, List.set_cons_zero, List.set_cons_succ]
      refine wpAnyH_ready (rs := [1, 6]) (by kernel_rfl) (by simp) (AllReadyH.cons rfl (fun KK hK => ?_) (AllReadyH.cons rfl (fun KK hK => ?_) AllReadyH.nil))
      · go_simp
        refine hK.out _ _ ⟨by assumption, by assumption⟩ (fun hHeld => ?_)
        clear hHeld hK KK
        try simp only [Act.put, List.setIfInBounds_toArray, List.set_cons_zero, List.set_cons_succ]
        refine wpAnyH_ready (rs := [6]) (by kernel_rfl) (by simp) (AllReadyH.cons rfl (fun KK hK => ?_) AllReadyH.nil)
        refine step_bldI rfl 9 8 rfl rfl rfl ?_
        intro W6 hW6
        obtain ⟨a6, rr6, i6, pp6, dd6⟩ := AL.out W4 W5 W6 KW4 hke5 hW6
        have HW6 := Lib.hid hW6
        clear hW6
        refine hK.out _ _ ⟨by assumption, by assumption⟩ (fun hHeld => ?_)
        clear hHeld hK KK
        try simp only [Act.put, List.setIfInBounds_toArray, List.set_cons_zero, List.set_cons_succ]
        refine wpAnyH_ready (rs := [7]) (by kernel_rfl) (by simp) (AllReadyH.cons rfl (fun KK hK => ?_) AllReadyH.nil)
        refine step_row rfl (.tmp 4) (.tmp 9) 22 rfl 0 3 _ 1 8 Tryz.underlying22 infoI rfl (by omega) _ xl (xs.map fun x => Value.int .i64 (x : Nat)) rfl rr6 ⟨W5.heap.size, 0, none⟩ 1 1 [.int .i64 (i : Nat)] rfl rfl ?_ (by intro u hu; simp at hu; subst hu; rfl) (by unfold maxLen; omega) (by omega) (Nat.zero_le _) ?_
        · (intro j u hu; rw [Addr.add_lit, Nat.zero_add]; match j, hu with | 0, hu => (injection hu with hu; rw [← hu]; exact i6))
        intro v7 W7 r7 g7 h7
        obtain ⟨b7, c7, rfl⟩ := row_open r7
        obtain ⟨fp, cp, pp7, dd7, pp8, dd8⟩ := GR.out W4 W5 W6 W7 (.slice b7 (xl + 1) c7) KW4 hke5 HW6.out g7
        have F7 := Lib.hid (FIN.out W4 W5 W6 W7 _ KW4 hpi5 hke5 HW6.out r7 g7 h7)
        clear r7 g7 h7 HW6 rr6 i6 a6
        refine hK.out _ _ ⟨by assumption, by assumption⟩ (fun hHeld => ?_)
        clear hHeld hK KK
        try simp only [Act.put, List.setIfInBounds_toArray, List.set_cons_zero, List.set_cons_succ]
        refine wpAnyH_ready (rs := [8]) (by kernel_rfl) (by simp) (AllReadyH.cons rfl (fun KK hK => ?_) AllReadyH.nil)
        go_simp
        refine hK.out _ _ ⟨by assumption, by assumption⟩ (fun hHeld => ?_)
        clear hHeld hK KK
        try simp only [Act.put, List.setIfInBounds_toArray, List.set_cons_zero, List.set_cons_succ]
        refine wpAnyH_ready (rs := [9]) (by kernel_rfl) (by simp) (AllReadyH.cons rfl (fun KK hK => ?_) AllReadyH.nil)
        go_simp
        refine hK.out _ _ ⟨by assumption, by assumption⟩ (fun hHeld => ?_)
        clear hHeld hK KK
        try simp only [Act.put, List.setIfInBounds_toArray, List.set_cons_zero, List.set_cons_succ]
        refine wpAnyH_done (by kernel_rfl) ?_ _
        go_wp2_with fail
        exact ⟨rfl, _, results_none rfl _ _ _, F7.out⟩
      · refine step_bldI rfl 9 8 rfl rfl rfl ?_
        intro W6 hW6
        obtain ⟨a6, rr6, i6, pp6, dd6⟩ := AL.out W4 W5 W6 KW4 hke5 hW6
        have HW6 := Lib.hid hW6
        clear hW6
        refine hK.out _ _ ⟨by assumption, by assumption⟩ (fun hHeld => ?_)
        clear hHeld hK KK
        try simp only [Act.put, List.setIfInBounds_toArray, List.set_cons_zero, List.set_cons_succ]
        refine wpAnyH_ready (rs := [1]) (by kernel_rfl) (by simp) (AllReadyH.cons rfl (fun KK hK => ?_) AllReadyH.nil)
        go_simp
        refine hK.out _ _ ⟨by assumption, by assumption⟩ (fun hHeld => ?_)
        clear hHeld hK KK
        try simp only [Act.put, List.setIfInBounds_toArray, List.set_cons_zero, List.set_cons_succ]
        refine wpAnyH_ready (rs := [7]) (by kernel_rfl) (by simp) (AllReadyH.cons rfl (fun KK hK => ?_) AllReadyH.nil)
        refine step_row rfl (.tmp 4) (.tmp 9) 22 rfl 0 3 _ 1 8 Tryz.underlying22 infoI rfl (by omega) _ xl (xs.map fun x => Value.int .i64 (x : Nat)) rfl rr6 ⟨W5.heap.size, 0, none⟩ 1 1 [.int .i64 (i : Nat)] rfl rfl ?_ (by intro u hu; simp at hu; subst hu; rfl) (by unfold maxLen; omega) (by omega) (Nat.zero_le _) ?_
        · (intro j u hu; rw [Addr.add_lit, Nat.zero_add]; match j, hu with | 0, hu => (injection hu with hu; rw [← hu]; exact i6))
        intro v7 W7 r7 g7 h7
        obtain ⟨b7, c7, rfl⟩ := row_open r7
        obtain ⟨fp, cp, pp7, dd7, pp8, dd8⟩ := GR.out W4 W5 W6 W7 (.slice b7 (xl + 1) c7) KW4 hke5 HW6.out g7
        have F7 := Lib.hid (FIN.out W4 W5 W6 W7 _ KW4 hpi5 hke5 HW6.out r7 g7 h7)
        clear r7 g7 h7 HW6 rr6 i6 a6
        refine hK.out _ _ ⟨by assumption, by assumption⟩ (fun hHeld => ?_)
        clear hHeld hK KK
        try simp only [Act.put, List.setIfInBounds_toArray, List.set_cons_zero, List.set_cons_succ]
        refine wpAnyH_ready (rs := [8]) (by kernel_rfl) (by simp) (AllReadyH.cons rfl (fun KK hK => ?_) AllReadyH.nil)
        go_simp
        refine hK.out _ _ ⟨by assumption, by assumption⟩ (fun hHeld => ?_)
        clear hHeld hK KK
        try simp only [Act.put, List.setIfInBounds_toArray, List.set_cons_zero, List.set_cons_succ]
        refine wpAnyH_ready (rs := [9]) (by kernel_rfl) (by simp) (AllReadyH.cons rfl (fun KK hK => ?_) AllReadyH.nil)
        go_simp
        refine hK.out _ _ ⟨by assumption, by assumption⟩ (fun hHeld => ?_)
        clear hHeld hK KK
        try simp only [Act.put, List.setIfInBounds_toArray, List.set_cons_zero, List.set_cons_succ]
        refine wpAnyH_done (by kernel_rfl) ?_ _
        go_wp2_with fail
        exact ⟨rfl, _, results_none rfl _ _ _, F7.out⟩
end By
end Go.Proofs.YtmflgfojicaecaaGreatDoor
