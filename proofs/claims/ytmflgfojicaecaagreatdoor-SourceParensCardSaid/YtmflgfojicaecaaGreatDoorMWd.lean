/- The writer's head and body of a declaration. Conditions: the text has at most a thousand million bytes; the package variables that the code reads lie in memory. -/
import Derived.Test.YtmflgfojicaecaaGreatDoorMWc
import Derived.Test.YtmflgfojicaecaaGreatDoorMCf
namespace Go.Proofs.YtmflgfojicaecaaGreatDoor
namespace By
open Go.RowKit WireN LexN SrcN
set_option linter.unusedVariables false
set_option linter.unusedSimpArgs false

theorem Wt.store {w0 w W' : World} {b : Nat} {l : List Nat} {d0 d1 d2 d3 v0 v1 v2 v3 : Value} (h : Wt w0 w b l d0 d1 d2 d3) (hw : W' = (((w.setCell ⟨b, 2, none⟩ v0).setCell ⟨b, 3, none⟩ v1).setCell ⟨b, 4, none⟩ v2).setCell ⟨b, 5, none⟩ v3) : Wt w0 W' b l v0 v1 v2 v3 ∧ Ok8 b w W' := by
  obtain ⟨p, v, h1⟩ := h.ex
  have ho : Only b w W' := by rw [hw]; exact ((((Only.refl b w).set 2 v0).set 3 v1).set 4 v2).set 5 v3
  refine ⟨⟨⟨p, v, ⟨?_, h1.pp, owns_kept h1.own (fun g hg => ho.block g (fun e => h1.ne (by rw [hg, e]))), h1.ne, h1.ge, h1.lt⟩⟩, Only.kp h.kp ho h1.ge⟩, fun k o hk hb _ => (ho.block k (fun e => hb (by rw [e]))).trans hk⟩
  rw [hw]
  exact (((h1.blk.set 2 v0).set 3 v1).set 4 v2).set 5 v3
set_option maxRecDepth 100000 in
set_option maxHeartbeats 1000000 in
theorem body_any {w0 w : World} {b : Nat} {d0 d1 d2 d3 : Value} {l nm : List Nat} {psn : List (List Nat)} {k : Int} {pa ba : Option Addr} {pc bc : Nat} {t : T} (hG : Glob w0) (hT : Tab10 w0) (hP : Sts w0 (.slice pa psn.length pc) psn) (hB : Nds w0 (.slice ba (flat t 0).length bc) (flat t 0)) (hok : okT psn.length t = true)
    (h : Wt w0 w b l d0 d1 d2 d3) (hlen : l.length + (wrT psn t 0).length ≤ 1000000000) :
    Calls Tryz.prog 46 #[.pointer (some ⟨b, 0, none⟩), .agg #[.int .i64 k, .string (st nm), .slice pa psn.length pc, .slice ba (flat t 0).length bc]] w (Wrote w0 b (l ++ wrT psn t 0) (.int .i64 k) (.string (st nm)) (.slice pa psn.length pc) (.slice ba (flat t 0).length bc) w) := by
  have CE : Hid (∀ W, Wt w0 W b l (.int .i64 k) (.string (st nm)) (.slice pa psn.length pc) (.slice ba (flat t 0).length bc) → Calls Tryz.prog 78 #[.pointer (some ⟨b, 0, none⟩), .int .i64 ((0 + t.size - 1 : Nat) : Int), .int .i64 ((0 : Nat) : Int)] W (Wrote w0 b (l ++ wrT psn t 0) (.int .i64 k) (.string (st nm)) (.slice pa psn.length pc) (.slice ba (flat t 0).length bc) W)) := Lib.hid (fun W hW => expr_wr hG hT hP hB t.size t 0 [] [] (Nat.le_refl _) hok (by simp) rfl W l 0 hW (by omega) hlen)
  have hbl6 : (flat t 0).length ≤ 1000000 := by obtain ⟨⟨_, _, -, h6, -⟩, -⟩ := hB; exact h6
  have hsz : (flat t 0).length = t.size := flat_length t 0
  have hpos := size_pos t
  obtain ⟨n, hn⟩ : ∃ n, n = t.size := ⟨_, rfl⟩
  obtain ⟨tt, htt⟩ : ∃ x, x = wrT psn t 0 := ⟨_, rfl⟩
  obtain ⟨pl, hpl⟩ : ∃ x, x = psn.length := ⟨_, rfl⟩
  rw [hsz, ← hn, ← htt, ← hpl] at CE
  rw [hsz, ← hn] at hbl6
  rw [← hn] at hpos
  rw [hsz, ← hn, ← htt, ← hpl]
  obtain ⟨Q, hQ⟩ : ∃ Q, Q = Wrote w0 b (l ++ tt) (.int .i64 k) (.string (st nm)) (.slice pa pl pc) (.slice ba n bc) w := ⟨_, rfl⟩
  rw [← hQ]
  have HQ := Lib.hid hQ
  obtain ⟨S, hS⟩ : ∃ x, x = st nm := ⟨_, rfl⟩
  rw [← hS] at CE HQ ⊢
  have CE2 : Hid (∀ W, Wt w0 W b l (.int .i64 k) (.string S) (.slice pa pl pc) (.slice ba n bc) → Calls Tryz.prog 78 #[.pointer (some ⟨b, 0, none⟩), .int .i64 ((n : Int) - 1), .int .i64 0] W (Wrote w0 b (l ++ tt) (.int .i64 k) (.string S) (.slice pa pl pc) (.slice ba n bc) W)) := Lib.hid (fun W hW => by
    have h1 := CE.out W hW
    have e : ((0 + n - 1 : Nat) : Int) = (n : Int) - 1 := by omega
    rw [e] at h1
    exact h1)
  obtain ⟨W0, hW0⟩ : ∃ W0, W0 = w.alloc (Obj.cells #[.int .i64 k, .string S, .slice pa pl pc, .slice ba n bc] 38) := ⟨_, rfl⟩
  have k0 : Kp w W0 := by rw [hW0]; exact kp_alloc w _
  have bb : Blk W0 w.heap.size 38 #[.int .i64 k, .string S, .slice pa pl pc, .slice ba n bc] := by rw [hW0]; exact Blk.new _ _ _
  have hnb : w.heap.size ≠ b := by have := h.lt; omega
  have h0 := h.keep k0
  obtain ⟨W1, hW1⟩ : ∃ W1, W1 = (((W0.setCell ⟨b, 2, none⟩ (.int .i64 k)).setCell ⟨b, 3, none⟩ (.string S)).setCell ⟨b, 4, none⟩ (.slice pa pl pc)).setCell ⟨b, 5, none⟩ (.slice ba n bc) := ⟨_, rfl⟩
  obtain ⟨h1, o1⟩ := h0.store hW1
  have b1 := bb.ok8 o1 hnb (by decide)
  have H1 := Lib.hid h1; have O1 := Lib.hid ((Ok8.of_kp (b := b) k0).trans o1)
  have c0 := bb.cell 0 rfl; have c1 := bb.cell 1 rfl; have c2 := bb.cell 2 rfl; have c3 := bb.cell 3 rfl
  have e3 := b1.cell 3 rfl
  obtain ⟨x2, x3, x4, x5⟩ := h0.cells
  obtain ⟨p, v, hwb⟩ := h0.ex
  have f2 := hwb.blk.free 2; have f3 := hwb.blk.free 3; have f4 := hwb.blk.free 4; have f5 := hwb.blk.free 5
  have HW0 := Lib.hid hW0; have HW1 := Lib.hid hW1
  rw [hW1] at e3
  have m1 : ¬ (w.heap.size = b) := hnb
  have m2 : ¬ (b = w.heap.size) := fun e => hnb e.symm
  clear h hQ hW0 hW1 k0 bb hn htt hpl hS hsz CE h0 h1 o1 b1 hwb hnb hG hT hP hB hok hlen
  go_enter Tryz.func46, Tryz.ntmps46
  rw [HW0.out] at c0 c1 c2 c3 x2 x3 x4 x5 f2 f3 f4 f5 e3
  go_wp2_with fail
  rw [← HW0.out, ← HW1.out]
  refine (CE2.out _ H1.out).mono ?_
  rintro e W2 ⟨rfl, h2, o2⟩
  have FIN : Hid (Q (.returned (.tuple #[])) W2) := Lib.hid (by
    rw [HQ.out]
    exact ⟨rfl, h2, O1.out.trans o2⟩)
  clear h2 o2 c0 c1 c2 c3 x2 x3 x4 x5 f2 f3 f4 f5 e3
  go_wp2_with fail
  go_end0
  exact FIN.out
end By
end Go.Proofs.YtmflgfojicaecaaGreatDoor

/- The writer's head of a declaration. Conditions: the text has at most a thousand million bytes; the parameters' slice has room for what it holds. -/
namespace Go.Proofs.YtmflgfojicaecaaGreatDoor
namespace By
open Go.RowKit WireN LexN SrcN
set_option linter.unusedVariables false
set_option linter.unusedSimpArgs false

set_option maxRecDepth 100000 in
set_option maxHeartbeats 1000000 in
theorem head_k2 {w0 w : World} {b : Nat} {d0 d1 d2 d3 : Value} {l nm : List Nat} {pa ba : Option Addr} {pl pc bl bc : Nat} (hnm : Lt nm)  (h : Wt w0 w b l d0 d1 d2 d3) (hlen : l.length + ([116, 101, 115, 116, 32] ++ nm).length ≤ 1000000000) :
    Calls Tryz.prog 70 #[.pointer (some ⟨b, 0, none⟩), .agg #[.int .i64 2, .string (st nm), .slice pa pl pc, .slice ba bl bc]] w (Wrote w0 b (l ++ ([116, 101, 115, 116, 32] ++ nm)) d0 d1 d2 d3 w) := by
  have HLEN := Lib.hid hlen
  obtain ⟨Q, hQ⟩ : ∃ Q, Q = Wrote w0 b (l ++ ([116, 101, 115, 116, 32] ++ nm)) d0 d1 d2 d3 w := ⟨_, rfl⟩
  rw [← hQ]
  have HQ := Lib.hid hQ
  obtain ⟨W0, hW0⟩ : ∃ W0, W0 = w.alloc (Obj.cells #[.int .i64 2, .string (st nm), .slice pa pl pc, .slice ba bl bc] 38) := ⟨_, rfl⟩
  have k0 : Kp w W0 := by rw [hW0]; exact kp_alloc w _
  have bb : Blk W0 w.heap.size 38 #[.int .i64 2, .string (st nm), .slice pa pl pc, .slice ba bl bc] := by rw [hW0]; exact Blk.new _ _ _
  have HNB : Hid (w.heap.size ≠ b) := Lib.hid (by have := h.lt; omega)
  have H0 : Hid (Wt w0 W0 b l d0 d1 d2 d3) := Lib.hid (h.keep k0)
  have HW0 := Lib.hid hW0; have BB := Lib.hid bb; have K0 := Lib.hid k0
  have O0 : Hid (Ok8 b w W0) := Lib.hid (Ok8.of_kp k0)
  have HZ0 : Hid (w.heap.size + 1 = W0.heap.size) := Lib.hid (by rw [hW0]; simp)
  have c0 := bb.cell 0 rfl; have c1 := bb.cell 1 rfl; have c2 := bb.cell 2 rfl
  rw [hW0] at c0 c1 c2
  have HNM := Lib.hid hnm
  clear h hQ hW0 k0 bb hlen hnm 
  go_enter Tryz.func70, Tryz.ntmps70
  go_wp2_with fail
  rw [← HW0.out]
  refine (put_some [[116, 101, 115, 116, 32], nm] H0.out HZ0.out rfl (by intro x hx; simp at hx; rcases hx with rfl | rfl; exact const_lt (by decide); exact HNM.out) rfl (by simp) (by first | exact HLEN.out | (have := HLEN.out; simp only [List.length_append, List.length_cons, List.length_nil, List.flatten_cons, List.flatten_nil] at this ⊢; omega))).mono ?_
  rintro e W2 ⟨rfl, h2, o2⟩
  have FIN : Hid (Q (.returned (.tuple #[])) W2) := Lib.hid (by
    rw [HQ.out]
    refine ⟨rfl, ?_, O0.out.trans o2⟩
    simpa only [List.append_assoc, List.flatten_cons, List.flatten_nil, List.append_nil, List.cons_append, List.nil_append] using h2)
  clear h2 o2 c0 c1 c2
  go_wp2_with fail
  go_end0
  exact FIN.out
set_option maxRecDepth 100000 in
set_option maxHeartbeats 1000000 in
theorem head_k3 {w0 w : World} {b : Nat} {d0 d1 d2 d3 : Value} {l nm : List Nat} {pa ba : Option Addr} {pl pc bl bc : Nat} (hnm : Lt nm)  (h : Wt w0 w b l d0 d1 d2 d3) (hlen : l.length + ([103, 101, 110, 32, 34] ++ nm ++ [34]).length ≤ 1000000000) :
    Calls Tryz.prog 70 #[.pointer (some ⟨b, 0, none⟩), .agg #[.int .i64 3, .string (st nm), .slice pa pl pc, .slice ba bl bc]] w (Wrote w0 b (l ++ ([103, 101, 110, 32, 34] ++ nm ++ [34])) d0 d1 d2 d3 w) := by
  have HLEN := Lib.hid hlen
  obtain ⟨Q, hQ⟩ : ∃ Q, Q = Wrote w0 b (l ++ ([103, 101, 110, 32, 34] ++ nm ++ [34])) d0 d1 d2 d3 w := ⟨_, rfl⟩
  rw [← hQ]
  have HQ := Lib.hid hQ
  obtain ⟨W0, hW0⟩ : ∃ W0, W0 = w.alloc (Obj.cells #[.int .i64 3, .string (st nm), .slice pa pl pc, .slice ba bl bc] 38) := ⟨_, rfl⟩
  have k0 : Kp w W0 := by rw [hW0]; exact kp_alloc w _
  have bb : Blk W0 w.heap.size 38 #[.int .i64 3, .string (st nm), .slice pa pl pc, .slice ba bl bc] := by rw [hW0]; exact Blk.new _ _ _
  have HNB : Hid (w.heap.size ≠ b) := Lib.hid (by have := h.lt; omega)
  have H0 : Hid (Wt w0 W0 b l d0 d1 d2 d3) := Lib.hid (h.keep k0)
  have HW0 := Lib.hid hW0; have BB := Lib.hid bb; have K0 := Lib.hid k0
  have O0 : Hid (Ok8 b w W0) := Lib.hid (Ok8.of_kp k0)
  have HZ0 : Hid (w.heap.size + 1 = W0.heap.size) := Lib.hid (by rw [hW0]; simp)
  have c0 := bb.cell 0 rfl; have c1 := bb.cell 1 rfl; have c2 := bb.cell 2 rfl
  rw [hW0] at c0 c1 c2
  have HNM := Lib.hid hnm
  clear h hQ hW0 k0 bb hlen hnm 
  go_enter Tryz.func70, Tryz.ntmps70
  go_wp2_with fail
  rw [← HW0.out]
  refine (put_some [[103, 101, 110, 32, 34], nm, [34]] H0.out HZ0.out rfl (by intro x hx; simp at hx; rcases hx with rfl | rfl | rfl; exact const_lt (by decide); exact HNM.out; exact const_lt (by decide)) rfl (by simp) (by first | exact HLEN.out | (have := HLEN.out; simp only [List.length_append, List.length_cons, List.length_nil, List.flatten_cons, List.flatten_nil] at this ⊢; omega))).mono ?_
  rintro e W2 ⟨rfl, h2, o2⟩
  have FIN : Hid (Q (.returned (.tuple #[])) W2) := Lib.hid (by
    rw [HQ.out]
    refine ⟨rfl, ?_, O0.out.trans o2⟩
    simpa only [List.append_assoc, List.flatten_cons, List.flatten_nil, List.append_nil, List.cons_append, List.nil_append] using h2)
  clear h2 o2 c0 c1 c2
  go_wp2_with fail
  go_end0
  exact FIN.out
set_option maxRecDepth 100000 in
set_option maxHeartbeats 1000000 in
theorem head_k1 {w0 w : World} {b : Nat} {d0 d1 d2 d3 : Value} {l nm : List Nat} {pa ba : Option Addr} {pl pc bl bc : Nat} (hnm : Lt nm) {tj : List Nat} (htj : Lt tj) (hJ : ∀ W, Kp w W → Calls Tryz.prog 109 #[.slice pa pl pc, .string (st [44, 32])] W fun e w' => e = .returned (.string (st tj)) ∧ Kp W w') (h : Wt w0 w b l d0 d1 d2 d3) (hlen : l.length + ([102, 117, 110, 99, 32] ++ nm ++ [40] ++ tj ++ [41]).length ≤ 1000000000) :
    Calls Tryz.prog 70 #[.pointer (some ⟨b, 0, none⟩), .agg #[.int .i64 1, .string (st nm), .slice pa pl pc, .slice ba bl bc]] w (Wrote w0 b (l ++ ([102, 117, 110, 99, 32] ++ nm ++ [40] ++ tj ++ [41])) d0 d1 d2 d3 w) := by
  have HLEN := Lib.hid hlen
  have HTJ := Lib.hid htj
  obtain ⟨Q, hQ⟩ : ∃ Q, Q = Wrote w0 b (l ++ ([102, 117, 110, 99, 32] ++ nm ++ [40] ++ tj ++ [41])) d0 d1 d2 d3 w := ⟨_, rfl⟩
  rw [← hQ]
  have HQ := Lib.hid hQ
  obtain ⟨W0, hW0⟩ : ∃ W0, W0 = w.alloc (Obj.cells #[.int .i64 1, .string (st nm), .slice pa pl pc, .slice ba bl bc] 38) := ⟨_, rfl⟩
  have k0 : Kp w W0 := by rw [hW0]; exact kp_alloc w _
  have bb : Blk W0 w.heap.size 38 #[.int .i64 1, .string (st nm), .slice pa pl pc, .slice ba bl bc] := by rw [hW0]; exact Blk.new _ _ _
  have HNB : Hid (w.heap.size ≠ b) := Lib.hid (by have := h.lt; omega)
  have H0 : Hid (Wt w0 W0 b l d0 d1 d2 d3) := Lib.hid (h.keep k0)
  have HW0 := Lib.hid hW0; have BB := Lib.hid bb; have K0 := Lib.hid k0
  have O0 : Hid (Ok8 b w W0) := Lib.hid (Ok8.of_kp k0)
  have HZ0 : Hid (w.heap.size + 1 = W0.heap.size) := Lib.hid (by rw [hW0]; simp)
  have c0 := bb.cell 0 rfl; have c1 := bb.cell 1 rfl; have c2 := bb.cell 2 rfl
  rw [hW0] at c0 c1 c2
  have HNM := Lib.hid hnm
  have JN : Hid (∀ W, Kp W0 W → Calls Tryz.prog 109 #[.slice pa pl pc, .string ⟨#[44, 32]⟩] W fun e w' => e = .returned (.string (st tj)) ∧ Kp W0 w') := Lib.hid (fun W hk => (hJ W (Kp.trans k0 hk)).mono fun e w' hh => ⟨hh.1, Kp.trans hk hh.2⟩)
  clear hJ h hQ hW0 k0 bb hlen hnm htj
  go_enter Tryz.func70, Tryz.ntmps70
  go_wp2_with fail
  rw [← HW0.out] at c0 c1 c2 ⊢
  go_region_held3 (fun w' => w'.cell? ⟨w.heap.size, 1, none⟩ = some (.string (st nm)) ∧ w'.cell? ⟨w.heap.size, 2, none⟩ = some (.slice pa pl pc))
    (first | go_keep | (exact ⟨(BB.out.keep hk2).cell 1 rfl, (BB.out.keep hk2).cell 2 rfl⟩) | (exact ⟨((BB.out.keep hk2).ok8 o3 HNB.out (by decide)).cell 1 rfl, ((BB.out.keep hk2).ok8 o3 HNB.out (by decide)).cell 2 rfl⟩) | fail "no keep")
    (first
     | (go_at_call 69; refine (put_some [[102, 117, 110, 99, 32], nm, [40], tj, [41]] (H0.out.keep hk2) rfl rfl (by intro x hx; simp at hx; rcases hx with rfl | rfl | rfl | rfl | rfl; exact const_lt (by decide); exact HNM.out; exact const_lt (by decide); exact HTJ.out; exact const_lt (by decide)) rfl (by simp) (by first | exact HLEN.out | (have := HLEN.out; simp only [List.length_append, List.length_cons, List.length_nil, List.flatten_cons, List.flatten_nil] at this ⊢; omega))).mono ?_; rintro e W3 ⟨rfl, h3, o3⟩)
     | (go_at_call 109; refine (JN.out _ (by first | exact Kp.refl _ | exact kp_drew _)).mono ?_; rintro e W2 ⟨rfl, hk2⟩)
     | fail "no arm")
  have FIN : Hid (Q (.returned (.tuple #[])) W3) := Lib.hid (by
    rw [HQ.out]
    refine ⟨rfl, ?_, (O0.out.trans (Ok8.of_kp hk2)).trans o3⟩
    simpa only [List.append_assoc, List.flatten_cons, List.flatten_nil, List.append_nil, List.cons_append, List.nil_append] using h3)
  clear h3 o3 
  go_wp2_with fail
  go_end0
  exact FIN.out
end By
end Go.Proofs.YtmflgfojicaecaaGreatDoor

/- The writer's file: the text of a source. Conditions: the text has at most a thousand million bytes; the parameters' slices have room for what they hold; the package variables that the code reads lie in memory. -/
namespace SrcN
theorem importsT_append : ∀ (a b : List (List Nat)), importsT (a ++ b) = importsT a ++ importsT b
  | [], b => rfl
  | q :: r, b => by simp [importsT, importsT_append r b]
theorem declsT_append : ∀ (a b : List TD), declsT (a ++ b) = declsT a ++ declsT b
  | [], b => rfl
  | q :: r, b => by simp [declsT, declsT_append r b]
theorem importsT_succ {im : List (List Nat)} {i : Nat} {q : List Nat} (h : im[i]? = some q) : importsT (im.take (i + 1)) = importsT (im.take i) ++ ([105, 109, 112, 111, 114, 116, 32] ++ q ++ [59, 10]) := by
  rw [List.take_add_one, h, importsT_append]; simp [importsT]
theorem declsT_succ {ds : List TD} {i : Nat} {d : TD} (h : ds[i]? = some d) : declsT (ds.take (i + 1)) = declsT (ds.take i) ++ declT d := by
  rw [List.take_add_one, h, declsT_append]; simp [declsT]
theorem importsT_le (im : List (List Nat)) (i : Nat) : (importsT (im.take i)).length ≤ (importsT im).length := by
  have : importsT im = importsT (im.take i) ++ importsT (im.drop i) := by rw [← importsT_append, List.take_append_drop]
  rw [this, List.length_append]; omega
theorem declsT_le (ds : List TD) (i : Nat) : (declsT (ds.take i)).length ≤ (declsT ds).length := by
  have : declsT ds = declsT (ds.take i) ++ declsT (ds.drop i) := by rw [← declsT_append, List.take_append_drop]
  rw [this, List.length_append]; omega
end SrcN
namespace Go.Proofs.YtmflgfojicaecaaGreatDoor
namespace By
open Go.RowKit WireN LexN SrcN
set_option linter.unusedVariables false
set_option linter.unusedSimpArgs false

theorem join_lt {sep : List Nat} (hs : Lt sep) : ∀ (xs : List (List Nat)), (∀ x ∈ xs, Lt x) → Lt (SrcN.join sep xs)
  | [], _ => Lt.nil
  | [x], h => h x (by simp)
  | x :: y :: r, h => by
    have := join_lt hs (y :: r) (fun z hz => h z (List.mem_cons_of_mem _ hz))
    exact ((h x (by simp)).append hs).append this
/-- The parameters' slices of declarations have room for what they hold. -/
def CapD (W : World) (dv : Value) : Prop := ∀ g o n c, dv = .slice (some ⟨g, o, none⟩) n c → ∀ j, j < n → ∀ pa pl pc, W.cell? ⟨g, o + j * 4 + 2, none⟩ = some (.slice pa pl pc) → pl ≤ pc
theorem head_any {w0 w : World} {b : Nat} {d0 d1 d2 d3 : Value} {l : List Nat} {pa ba : Option Addr} {pc bl bc : Nat} {d : TD} (hk : (d.k = 1 ∨ d.k = 2 ∨ d.k = 3)) (hnm : Lt d.nm) (hP : Sts w0 (.slice pa d.ps.length pc) d.ps) (hc : d.ps.length ≤ pc) (h : Wt w0 w b l d0 d1 d2 d3) (hlen : l.length + (headT d.k d.nm d.ps).length ≤ 1000000000) :
    Calls Tryz.prog 70 #[.pointer (some ⟨b, 0, none⟩), .agg #[.int .i64 d.k, .string (st d.nm), .slice pa d.ps.length pc, .slice ba bl bc]] w (Wrote w0 b (l ++ headT d.k d.nm d.ps) d0 d1 d2 d3 w) := by
  obtain ⟨k, nm, ps, t⟩ := d
  simp only at *
  rcases hk with rfl | rfl | rfl
  · have e : headT 1 nm ps = ([102, 117, 110, 99, 32] ++ nm ++ [40] ++ SrcN.join [44, 32] ps ++ [41]) := by simp [headT]
    rw [e] at hlen ⊢
    refine head_k1 hnm (join_lt (const_lt (by decide)) ps (fun x hx => (hP.ok x hx).1)) (fun W hk => ?_) h hlen
    refine Join_any (hP.kp (Kp.trans h.kp hk)) hc ?_
    simp only [List.length_append, List.length_cons, List.length_nil] at hlen
    omega
  · have e : headT 2 nm ps = ([116, 101, 115, 116, 32] ++ nm) := by simp [headT]
    rw [e] at hlen ⊢
    exact head_k2 hnm h hlen
  · have e : headT 3 nm ps = ([103, 101, 110, 32, 34] ++ nm ++ [34]) := by simp [headT]
    rw [e] at hlen ⊢
    exact head_k3 hnm h hlen
/-- What the writing of a file answers. -/
def WroteF (w0 : World) (b : Nat) (l : List Nat) (w : World) (e : Ending) (w' : World) : Prop := ∃ d0 d1 d2 d3, Wrote w0 b l d0 d1 d2 d3 w e w'
set_option maxRecDepth 100000 in
set_option maxHeartbeats 4000000 in
theorem file_any {w0 w : World} {b : Nat} {d0 d1 d2 d3 : Value} {l : List Nat} {f : XS} {iv dv : Value} {ds : List TD} (hG : Glob w0) (hT : Tab10 w0) (hS : SrcV w0 iv dv f) (hcap : CapD w0 dv) (hds : f.dc = ds.map TD.xd) (hok : ∀ d ∈ ds, (d.k = 1 ∨ d.k = 2 ∨ d.k = 3) ∧ okT d.ps.length d.t = true)
    (h : Wt w0 w b l d0 d1 d2 d3) (hlen : l.length + (fileT f.pk f.im ds).length ≤ 1000000000) :
    Calls Tryz.prog 41 #[.pointer (some ⟨b, 0, none⟩), .agg #[.string (st f.pk), iv, dv]] w (WroteF w0 b (l ++ fileT f.pk f.im ds) w) := by
  obtain ⟨Q, hQ⟩ : ∃ Q, Q = WroteF w0 b (l ++ fileT f.pk f.im ds) w := ⟨_, rfl⟩
  rw [← hQ]
  have HQ := Lib.hid hQ
  have HS := Lib.hid hS; have HG := Lib.hid hG; have HT := Lib.hid hT; have HCAP := Lib.hid hcap; have HDS := Lib.hid hds; have HOK := Lib.hid hok; have HLEN := Lib.hid hlen
  obtain ⟨⟨ia, ic, rfl, hil6, hic⟩, hiok⟩ := hS.im
  obtain ⟨⟨da, dcp, rfl, hdl6, hdc⟩, hdok⟩ := hS.dc
  have HIC := Lib.hid hic; have HIOK := Lib.hid hiok; have HDC := Lib.hid hdc; have HDOK := Lib.hid hdok
  obtain ⟨il, hil⟩ : ∃ x, x = f.im.length := ⟨_, rfl⟩
  obtain ⟨dl, hdl⟩ : ∃ x, x = f.dc.length := ⟨_, rfl⟩
  rw [← hil] at hil6 ⊢
  rw [← hdl] at hdl6 ⊢
  rw [← hdl] at HCAP
  have HIL := Lib.hid hil; have HDL := Lib.hid hdl
  obtain ⟨pk, hpk⟩ : ∃ x, x = f.pk := ⟨_, rfl⟩
  rw [← hpk] at ⊢
  have HPK := Lib.hid hpk
  have HPL : Hid (Lt pk) := Lib.hid (by rw [hpk]; exact hS.pk.1)
  obtain ⟨W0, hW0⟩ : ∃ W0, W0 = w.alloc (Obj.cells #[.string (st pk), .slice ia il ic, .slice da dl dcp] 29) := ⟨_, rfl⟩
  have k0 : Kp w W0 := by rw [hW0]; exact kp_alloc w _
  have bb : Blk W0 w.heap.size 29 #[.string (st pk), .slice ia il ic, .slice da dl dcp] := by rw [hW0]; exact Blk.new _ _ _
  have HNB : Hid (w.heap.size ≠ b) := Lib.hid (by have := h.lt; omega)
  have H0 : Hid (Wt w0 W0 b l d0 d1 d2 d3) := Lib.hid (h.keep k0)
  have HW0 := Lib.hid hW0; have BB := Lib.hid bb
  have O0 : Hid (Ok8 b w W0) := Lib.hid (Ok8.of_kp k0)
  have HZ0 : Hid (w.heap.size + 1 = W0.heap.size) := Lib.hid (by rw [hW0]; simp)
  have c0 := bb.cell 0 rfl
  rw [hW0] at c0
  have HL1 : Hid (l.length + ([112, 97, 99, 107, 97, 103, 101, 32] ++ pk ++ [59, 10] : List Nat).length + (importsT f.im).length + (declsT ds).length ≤ 1000000000) := Lib.hid (by
    rw [hpk]
    unfold fileT at hlen
    simp only [List.length_append] at hlen ⊢
    omega)
  have HPK0 : Hid (l ++ fileT f.pk f.im ds = l ++ ([112, 97, 99, 107, 97, 103, 101, 32] ++ pk ++ [59, 10]) ++ importsT f.im ++ declsT ds) := Lib.hid (by rw [hpk]; unfold fileT; simp only [List.append_assoc])
  clear h hQ hW0 k0 bb hlen hil hdl hpk hic hiok hdc hdok hS hG hT hcap hds hok
  go_enter Tryz.func41, Tryz.ntmps41
  go_wp2_with fail
  rw [← HW0.out]
  refine (put_some [[112, 97, 99, 107, 97, 103, 101, 32], pk, [59, 10]] H0.out HZ0.out rfl (by intro x hx; simp at hx; rcases hx with rfl | rfl | rfl; exact const_lt (by decide); exact HPL.out; exact const_lt (by decide)) rfl (by simp) (by have := HL1.out; simp only [List.length_append, List.length_cons, List.length_nil, List.flatten_cons, List.flatten_nil] at this ⊢; omega)).mono ?_
  rintro e W1 ⟨rfl, h1, o1⟩
  have B1 := Lib.hid (BB.out.ok8 o1 HNB.out (by decide))
  have e1 := B1.out.cell 1 rfl
  obtain ⟨l1, hl1⟩ : ∃ x, x = l ++ ([112, 97, 99, 107, 97, 103, 101, 32] ++ pk ++ [59, 10]) := ⟨_, rfl⟩
  have H1 : Hid (Wt w0 W1 b (l1 ++ importsT (f.im.take 0)) d0 d1 d2 d3) := Lib.hid (by rw [hl1]; simpa [importsT] using h1)
  have O1 := Lib.hid (O0.out.trans o1)
  rw [← hl1] at HPK0
  have HL2 : Hid (l1.length + (importsT f.im).length + (declsT ds).length ≤ 1000000000) := Lib.hid (by
    rw [hl1, List.length_append]; exact HL1.out)
  clear h1 o1 hl1 c0
  go_wp2_with fail
  go_loopw [16] (fun iv wy => ∃ i : Nat, i ≤ il ∧ iv = .int .i64 i ∧ Hid (Wt w0 wy b (l1 ++ importsT (f.im.take i)) d0 d1 d2 d3) ∧ Hid (Ok8 b w wy) ∧ Hid (Ok8 b W1 wy)) (fun iv _ => il - (intOf iv).toNat)
  case atStart => exact ⟨0, Nat.zero_le _, rfl, H1, O1, Lib.hid (Lib.OthersKept.refl _ _ _)⟩
  case round =>
    obtain ⟨i, hi, rfl, HW, HB, HB1⟩ := hrel
    rename World => wy
    by_cases hil : i < il
    · obtain ⟨q, hq⟩ : ∃ q, f.im[i]? = some q := ⟨_, List.getElem?_eq_getElem (by have := HIL.out; omega)⟩
      rcases HIC.out with h0 | ⟨gi, oi, rfl, -, hc⟩
      · rw [h0] at hq; cases hq
      have k0 := cell_kept (hc i q hq) HW.out.kp
      have HQL := Lib.hid (HIOK.out q (List.mem_of_getElem? hq)).1
      have HE := Lib.hid (importsT_succ hq)
      have HLE := Lib.hid (importsT_le f.im (i + 1))
      clear hq hc
      go_wp2_with fail
      refine (put_some [[105, 109, 112, 111, 114, 116, 32], q, [59, 10]] HW.out rfl rfl (by intro x hx; simp at hx; rcases hx with rfl | rfl | rfl; exact const_lt (by decide); exact HQL.out; exact const_lt (by decide)) rfl (by simp) (by
        have h1 := HL2.out; have h2 := HLE.out
        rw [HE.out] at h2
        simp only [List.length_append, List.length_cons, List.length_nil, List.flatten_cons, List.flatten_nil] at h1 h2 ⊢; omega)).mono ?_
      rintro e W2 ⟨rfl, h2, o2⟩
      have HW2 : Hid (Wt w0 W2 b (l1 ++ importsT (f.im.take (i + 1))) d0 d1 d2 d3) := Lib.hid (by
        rw [HE.out]
        simpa only [List.append_assoc, List.flatten_cons, List.flatten_nil, List.append_nil, List.cons_append, List.nil_append] using h2)
      have HB2 : Hid (Ok8 b w W2) := Lib.hid (HB.out.trans o2)
      have HB12 : Hid (Ok8 b W1 W2) := Lib.hid (HB1.out.trans o2)
      clear h2 o2 k0
      go_wp2_with fail
      go_roundw
      case rel => exact ⟨i + 1, by omega, vint (by omega), HW2, HB2, HB12⟩
      case measure => simp [intOf]; omega
    · have HTK : Hid (f.im.take i = f.im) := Lib.hid (List.take_of_length_le (by have := HIL.out; omega))
      have B2 := Lib.hid (B1.out.ok8 HB1.out HNB.out (by decide))
      have e2 := B2.out.cell 2 rfl
      obtain ⟨l2, hl2⟩ : ∃ x, x = l1 ++ importsT f.im := ⟨_, rfl⟩
      have H2 : Hid (Wt w0 wy b (l2 ++ declsT (ds.take 0)) d0 d1 d2 d3) := Lib.hid (by
        have := HW.out
        rw [HTK.out, ← hl2] at this
        simpa [declsT] using this)
      rw [← hl2] at HPK0
      have HL3 : Hid (l2.length + (declsT ds).length ≤ 1000000000) := Lib.hid (by rw [hl2, List.length_append]; exact HL2.out)
      clear hl2
      go_wp2_with fail
      go_loopw [28] (fun iv wz => ∃ i : Nat, i ≤ dl ∧ iv = .int .i64 i ∧ Hid (∃ d0 d1 d2 d3, Wt w0 wz b (l2 ++ declsT (ds.take i)) d0 d1 d2 d3) ∧ Hid (Ok8 b w wz)) (fun iv _ => dl - (intOf iv).toNat)
      case atStart => exact ⟨0, Nat.zero_le _, rfl, Lib.hid ⟨_, _, _, _, H2.out⟩, HB⟩
      case round =>
        obtain ⟨j, hj, rfl, HWD, HBD⟩ := hrel
        rename World => wz
        obtain ⟨D0, D1, D2, D3, hwd⟩ := HWD.out
        have HWZ := Lib.hid hwd
        clear hwd
        by_cases hjl : j < dl
        · obtain ⟨d, hd⟩ : ∃ d, ds[j]? = some d := ⟨_, List.getElem?_eq_getElem (by have := HDL.out; rw [HDS.out, List.length_map] at this; omega)⟩
          have hx : f.dc[j]? = some d.xd := by rw [HDS.out, List.getElem?_map, hd]; rfl
          rcases HDC.out with h0 | ⟨gd, od, rfl, hcell⟩
          · rw [h0] at hx; cases hx
          obtain ⟨pa, pc, ba, bc, n0, n1, n2, n3, hP, hB⟩ := hcell j _ hx
          simp only [TD.xd] at n0 n1 n2 n3 hP hB
          have hcp := HCAP.out gd od dl dcp rfl j hjl _ _ _ n2
          have hdk := HOK.out d (List.mem_of_getElem? hd)
          have hnl := (HDOK.out _ (List.mem_of_getElem? hx)).1
          simp only [TD.xd] at hnl
          have m0 := cell_kept n0 HWZ.out.kp; have m1 := cell_kept n1 HWZ.out.kp; have m2 := cell_kept n2 HWZ.out.kp; have m3 := cell_kept n3 HWZ.out.kp
          have HE := Lib.hid (declsT_succ hd)
          have HLE := Lib.hid (declsT_le ds (j + 1))
          obtain ⟨pl, hpl⟩ : ∃ x, x = d.ps.length := ⟨_, rfl⟩
          obtain ⟨bl, hbl⟩ : ∃ x, x = (flat d.t 0).length := ⟨_, rfl⟩
          obtain ⟨S, hSS⟩ : ∃ x, x = st d.nm := ⟨_, rfl⟩
          obtain ⟨K, hK⟩ : ∃ x, x = d.k := ⟨_, rfl⟩
          obtain ⟨TH, hTH⟩ : ∃ x, x = headT d.k d.nm d.ps := ⟨_, rfl⟩
          obtain ⟨TB, hTB⟩ : ∃ x, x = wrT d.ps d.t 0 := ⟨_, rfl⟩
          have HDT : Hid (declT d = TH ++ [32, 61, 32] ++ TB ++ [59, 10]) := Lib.hid (by rw [hTH, hTB]; rfl)
          have CH : Hid (∀ W l d0 d1 d2 d3, Wt w0 W b l d0 d1 d2 d3 → l.length + TH.length ≤ 1000000000 → Calls Tryz.prog 70 #[.pointer (some ⟨b, 0, none⟩), .agg #[.int .i64 K, .string S, .slice pa pl pc, .slice ba bl bc]] W (Wrote w0 b (l ++ TH) d0 d1 d2 d3 W)) := Lib.hid (fun W l d0 d1 d2 d3 h1 h2 => by
            rw [hTH] at h2 ⊢
            rw [hK, hSS, hpl]
            exact head_any hdk.1 hnl hP hcp h1 h2)
          have CB : Hid (∀ W l d0 d1 d2 d3, Wt w0 W b l d0 d1 d2 d3 → l.length + TB.length ≤ 1000000000 → Calls Tryz.prog 46 #[.pointer (some ⟨b, 0, none⟩), .agg #[.int .i64 K, .string S, .slice pa pl pc, .slice ba bl bc]] W (Wrote w0 b (l ++ TB) (.int .i64 K) (.string S) (.slice pa pl pc) (.slice ba bl bc) W)) := Lib.hid (fun W l d0 d1 d2 d3 h1 h2 => by
            rw [hTB] at h2 ⊢
            rw [hK, hSS, hpl, hbl]
            exact body_any HG.out HT.out hP hB hdk.2 h1 h2)
          have HLD : Hid ((l2 ++ declsT (ds.take j)).length + (TH.length + 3 + TB.length + 2) ≤ 1000000000) := Lib.hid (by
            have h1 := HL3.out; have h2 := HLE.out
            rw [HE.out, HDT.out] at h2
            simp only [List.length_append, List.length_cons, List.length_nil] at h1 h2 ⊢; omega)
          rw [← hpl] at m2
          rw [← hbl] at m3
          rw [← hSS] at m1
          rw [← hK] at m0
          obtain ⟨W3, hW3⟩ : ∃ W3, W3 = wz.alloc (Obj.cells #[.int .i64 K, .string S, .slice pa pl pc, .slice ba bl bc] 38) := ⟨_, rfl⟩
          have k3 : Kp wz W3 := by rw [hW3]; exact kp_alloc _ _
          have b3 : Blk W3 wz.heap.size 38 #[.int .i64 K, .string S, .slice pa pl pc, .slice ba bl bc] := by rw [hW3]; exact Blk.new _ _ _
          have HN3 : Hid (wz.heap.size ≠ b) := Lib.hid (by have := HWZ.out.lt; omega)
          have H3 : Hid (Wt w0 W3 b (l2 ++ declsT (ds.take j)) D0 D1 D2 D3) := Lib.hid (HWZ.out.keep k3)
          have HW3 := Lib.hid hW3; have B3 := Lib.hid b3
          have O3 : Hid (Ok8 b w W3) := Lib.hid (HBD.out.trans (Ok8.of_kp k3))
          have q0 := b3.cell 0 rfl; have q1 := b3.cell 1 rfl; have q2 := b3.cell 2 rfl; have q3 := b3.cell 3 rfl
          rw [hW3] at q0 q1 q2 q3
          clear hd hx hcell n0 n1 n2 n3 hP hB hcp hdk hnl hpl hbl hSS hK hTH hTB hW3 k3 b3
          go_wp2_with fail
          rw [← HW3.out]
          refine (CH.out _ _ _ _ _ _ H3.out (by have := HLD.out; omega)).mono ?_
          rintro e W4 ⟨rfl, h4, o4⟩
          have H4 := Lib.hid h4; have O4 := Lib.hid (O3.out.trans o4)
          have B4 := Lib.hid (B3.out.ok8 o4 HN3.out (by decide))
          clear h4 o4 q0 q1 q2 q3 m0 m1 m2 m3
          go_wp2_with fail
          refine (put_one (x := [32, 61, 32]) H4.out rfl rfl (const_lt (by decide)) (by have := HLD.out; simp only [List.length_append, List.length_cons, List.length_nil] at this ⊢; omega)).mono ?_
          rintro e W5 ⟨rfl, h5, o5⟩
          have H5 := Lib.hid h5; have O5 := Lib.hid (O4.out.trans o5)
          have b5 := B4.out.ok8 o5 HN3.out (by decide)
          have q0 := b5.cell 0 rfl; have q1 := b5.cell 1 rfl; have q2 := b5.cell 2 rfl; have q3 := b5.cell 3 rfl
          clear h5 o5 b5
          go_wp2_with fail
          refine (CB.out _ _ _ _ _ _ H5.out (by have := HLD.out; simp only [List.length_append, List.length_cons, List.length_nil] at this ⊢; omega)).mono ?_
          rintro e W6 ⟨rfl, h6, o6⟩
          have H6 := Lib.hid h6; have O6 := Lib.hid (O5.out.trans o6)
          clear h6 o6 q0 q1 q2 q3
          go_wp2_with fail
          refine (put_one (x := [59, 10]) H6.out rfl rfl (const_lt (by decide)) (by have := HLD.out; simp only [List.length_append, List.length_cons, List.length_nil] at this ⊢; omega)).mono ?_
          rintro e W7 ⟨rfl, h7, o7⟩
          have H7 : Hid (∃ d0 d1 d2 d3, Wt w0 W7 b (l2 ++ declsT (ds.take (j + 1))) d0 d1 d2 d3) := Lib.hid (by
            rw [HE.out, HDT.out]
            exact ⟨_, _, _, _, by simpa only [List.append_assoc] using h7⟩)
          have O7 : Hid (Ok8 b w W7) := Lib.hid (O6.out.trans o7)
          clear h7 o7
          go_wp2_with fail
          go_roundw
          case rel => exact ⟨j + 1, by omega, vint (by omega), H7, O7⟩
          case measure => simp [intOf]; omega
        · have FIN : Hid (Q (.returned (.tuple #[])) wz) := Lib.hid (by
            rw [HQ.out, HPK0.out]
            refine ⟨D0, D1, D2, D3, rfl, ?_, HBD.out⟩
            have := HWZ.out
            rw [List.take_of_length_le (by have := HDL.out; rw [HDS.out, List.length_map] at this; omega)] at this
            exact this)
          go_wp2_with fail
          go_end0
          exact FIN.out
end By
end Go.Proofs.YtmflgfojicaecaaGreatDoor
