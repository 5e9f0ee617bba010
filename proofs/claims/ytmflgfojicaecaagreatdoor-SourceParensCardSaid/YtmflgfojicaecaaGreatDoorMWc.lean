/- The writer's node, third part: node, given what the writing of what is below does. Conditions: the text has at most a thousand million bytes; the package variables that the code reads lie in memory. -/
import Derived.Test.YtmflgfojicaecaaGreatDoorMWb
namespace Go.Proofs.YtmflgfojicaecaaGreatDoor
namespace By
open Go.RowKit WireN LexN SrcN
set_option linter.unusedVariables false
set_option linter.unusedSimpArgs false

set_option maxRecDepth 100000 in
set_option maxHeartbeats 1000000 in
theorem node_k7 {w0 w : World} {b : Nat} {d0 d1 d2 d3 : Value} {l nm : List Nat} {psn : List (List Nat)} {num op : Int} {aa : Option Addr} {ac : Nat} {al : Nat} (hnm : Lt nm) (h : Wt w0 w b l d0 d1 d2 d3) (hlen : l.length + ([115, 105, 122, 101, 40, 34] ++ nm ++ [34, 41]).length ≤ 1000000000) :
    Calls Tryz.prog 116 #[.pointer (some ⟨b, 0, none⟩), .agg (ecell 7 num op (st nm) (.slice aa al ac))] w (Wrote w0 b (l ++ ([115, 105, 122, 101, 40, 34] ++ nm ++ [34, 41])) d0 d1 d2 d3 w) := by
  have HLEN := Lib.hid hlen
  have HNM := Lib.hid hnm
  obtain ⟨Q, hQ⟩ : ∃ Q, Q = Wrote w0 b (l ++ ([115, 105, 122, 101, 40, 34] ++ nm ++ [34, 41])) d0 d1 d2 d3 w := ⟨_, rfl⟩
  rw [← hQ]
  have HQ := Lib.hid hQ
  obtain ⟨W0, hW0⟩ : ∃ W0, W0 = w.alloc (Obj.cells (ecell 7 num op (st nm) (.slice aa al ac)) 57) := ⟨_, rfl⟩
  have k0 : Kp w W0 := by rw [hW0]; exact kp_alloc w _
  have bb : Blk W0 w.heap.size 57 (ecell 7 num op (st nm) (.slice aa al ac)) := by rw [hW0]; exact Blk.new _ _ _
  have HNB : Hid (w.heap.size ≠ b) := Lib.hid (by have := h.lt; omega)
  have H0 : Hid (Wt w0 W0 b l d0 d1 d2 d3) := Lib.hid (h.keep k0)
  have HW0 := Lib.hid hW0; have BB := Lib.hid bb
  have O0 : Hid (Ok8 b w W0) := Lib.hid (Ok8.of_kp k0)
  have HZ0 : Hid (w.heap.size + 1 = W0.heap.size) := Lib.hid (by rw [hW0]; simp)
  have c0 := bb.cell 0 rfl; have c1 := bb.cell 1 rfl; have c2 := bb.cell 2 rfl; have c3 := bb.cell 3 rfl; have c4 := bb.cell 4 rfl
  rw [hW0] at c0 c1 c2 c3 c4
  clear h hQ hW0 k0 bb hlen hnm
  unfold ecell at *
  go_enter Tryz.func116, Tryz.ntmps116
  go_wp2_with fail
  rw [← HW0.out]
  refine (put_some [[115, 105, 122, 101, 40, 34], nm, [34, 41]] H0.out HZ0.out rfl (by intro x hx; simp at hx; rcases hx with rfl | rfl | rfl; exact const_lt (by decide); exact HNM.out; exact const_lt (by decide)) rfl (by simp) (by first | exact HLEN.out | (have := HLEN.out; simp only [List.length_append, List.length_cons, List.length_nil, List.flatten_cons, List.flatten_nil] at this ⊢; omega))).mono ?_
  rintro e W2 ⟨rfl, h2, o2⟩
  have FIN : Hid (Q (.returned (.tuple #[])) W2) := Lib.hid (by
    rw [HQ.out]
    refine ⟨rfl, ?_, O0.out.trans o2⟩
    simpa only [List.append_assoc, List.flatten_cons, List.flatten_nil, List.append_nil, List.cons_append, List.nil_append] using h2)
  clear h2 o2 c0 c1 c2 c3 c4
  go_wp2_with fail
  go_end0
  exact FIN.out
set_option maxRecDepth 100000 in
set_option maxHeartbeats 1000000 in
theorem node_k8 {w0 w : World} {b : Nat} {d0 d1 d2 d3 : Value} {l nm : List Nat} {psn : List (List Nat)} {num op : Int} {aa : Option Addr} {ac : Nat} {al : Nat} (hnm : Lt nm) (h : Wt w0 w b l d0 d1 d2 d3) (hlen : l.length + ([104, 97, 115, 40, 34] ++ nm ++ [34, 41]).length ≤ 1000000000) :
    Calls Tryz.prog 116 #[.pointer (some ⟨b, 0, none⟩), .agg (ecell 8 num op (st nm) (.slice aa al ac))] w (Wrote w0 b (l ++ ([104, 97, 115, 40, 34] ++ nm ++ [34, 41])) d0 d1 d2 d3 w) := by
  have HLEN := Lib.hid hlen
  have HNM := Lib.hid hnm
  obtain ⟨Q, hQ⟩ : ∃ Q, Q = Wrote w0 b (l ++ ([104, 97, 115, 40, 34] ++ nm ++ [34, 41])) d0 d1 d2 d3 w := ⟨_, rfl⟩
  rw [← hQ]
  have HQ := Lib.hid hQ
  obtain ⟨W0, hW0⟩ : ∃ W0, W0 = w.alloc (Obj.cells (ecell 8 num op (st nm) (.slice aa al ac)) 57) := ⟨_, rfl⟩
  have k0 : Kp w W0 := by rw [hW0]; exact kp_alloc w _
  have bb : Blk W0 w.heap.size 57 (ecell 8 num op (st nm) (.slice aa al ac)) := by rw [hW0]; exact Blk.new _ _ _
  have HNB : Hid (w.heap.size ≠ b) := Lib.hid (by have := h.lt; omega)
  have H0 : Hid (Wt w0 W0 b l d0 d1 d2 d3) := Lib.hid (h.keep k0)
  have HW0 := Lib.hid hW0; have BB := Lib.hid bb
  have O0 : Hid (Ok8 b w W0) := Lib.hid (Ok8.of_kp k0)
  have HZ0 : Hid (w.heap.size + 1 = W0.heap.size) := Lib.hid (by rw [hW0]; simp)
  have c0 := bb.cell 0 rfl; have c1 := bb.cell 1 rfl; have c2 := bb.cell 2 rfl; have c3 := bb.cell 3 rfl; have c4 := bb.cell 4 rfl
  rw [hW0] at c0 c1 c2 c3 c4
  clear h hQ hW0 k0 bb hlen hnm
  unfold ecell at *
  go_enter Tryz.func116, Tryz.ntmps116
  go_wp2_with fail
  rw [← HW0.out]
  refine (put_some [[104, 97, 115, 40, 34], nm, [34, 41]] H0.out HZ0.out rfl (by intro x hx; simp at hx; rcases hx with rfl | rfl | rfl; exact const_lt (by decide); exact HNM.out; exact const_lt (by decide)) rfl (by simp) (by first | exact HLEN.out | (have := HLEN.out; simp only [List.length_append, List.length_cons, List.length_nil, List.flatten_cons, List.flatten_nil] at this ⊢; omega))).mono ?_
  rintro e W2 ⟨rfl, h2, o2⟩
  have FIN : Hid (Q (.returned (.tuple #[])) W2) := Lib.hid (by
    rw [HQ.out]
    refine ⟨rfl, ?_, O0.out.trans o2⟩
    simpa only [List.append_assoc, List.flatten_cons, List.flatten_nil, List.append_nil, List.cons_append, List.nil_append] using h2)
  clear h2 o2 c0 c1 c2 c3 c4
  go_wp2_with fail
  go_end0
  exact FIN.out
set_option maxRecDepth 100000 in
set_option maxHeartbeats 1000000 in
theorem node_k9 {w0 w : World} {b : Nat} {d0 d1 d2 d3 : Value} {l nm : List Nat} {psn : List (List Nat)} {num op : Int} {aa : Option Addr} {ac : Nat} {al : Nat} (hnm : Lt nm) (h : Wt w0 w b l d0 d1 d2 d3) (hlen : l.length + ([101, 110, 118, 40, 34] ++ nm ++ [34, 41]).length ≤ 1000000000) :
    Calls Tryz.prog 116 #[.pointer (some ⟨b, 0, none⟩), .agg (ecell 9 num op (st nm) (.slice aa al ac))] w (Wrote w0 b (l ++ ([101, 110, 118, 40, 34] ++ nm ++ [34, 41])) d0 d1 d2 d3 w) := by
  have HLEN := Lib.hid hlen
  have HNM := Lib.hid hnm
  obtain ⟨Q, hQ⟩ : ∃ Q, Q = Wrote w0 b (l ++ ([101, 110, 118, 40, 34] ++ nm ++ [34, 41])) d0 d1 d2 d3 w := ⟨_, rfl⟩
  rw [← hQ]
  have HQ := Lib.hid hQ
  obtain ⟨W0, hW0⟩ : ∃ W0, W0 = w.alloc (Obj.cells (ecell 9 num op (st nm) (.slice aa al ac)) 57) := ⟨_, rfl⟩
  have k0 : Kp w W0 := by rw [hW0]; exact kp_alloc w _
  have bb : Blk W0 w.heap.size 57 (ecell 9 num op (st nm) (.slice aa al ac)) := by rw [hW0]; exact Blk.new _ _ _
  have HNB : Hid (w.heap.size ≠ b) := Lib.hid (by have := h.lt; omega)
  have H0 : Hid (Wt w0 W0 b l d0 d1 d2 d3) := Lib.hid (h.keep k0)
  have HW0 := Lib.hid hW0; have BB := Lib.hid bb
  have O0 : Hid (Ok8 b w W0) := Lib.hid (Ok8.of_kp k0)
  have HZ0 : Hid (w.heap.size + 1 = W0.heap.size) := Lib.hid (by rw [hW0]; simp)
  have c0 := bb.cell 0 rfl; have c1 := bb.cell 1 rfl; have c2 := bb.cell 2 rfl; have c3 := bb.cell 3 rfl; have c4 := bb.cell 4 rfl
  rw [hW0] at c0 c1 c2 c3 c4
  clear h hQ hW0 k0 bb hlen hnm
  unfold ecell at *
  go_enter Tryz.func116, Tryz.ntmps116
  go_wp2_with fail
  rw [← HW0.out]
  refine (put_some [[101, 110, 118, 40, 34], nm, [34, 41]] H0.out HZ0.out rfl (by intro x hx; simp at hx; rcases hx with rfl | rfl | rfl; exact const_lt (by decide); exact HNM.out; exact const_lt (by decide)) rfl (by simp) (by first | exact HLEN.out | (have := HLEN.out; simp only [List.length_append, List.length_cons, List.length_nil, List.flatten_cons, List.flatten_nil] at this ⊢; omega))).mono ?_
  rintro e W2 ⟨rfl, h2, o2⟩
  have FIN : Hid (Q (.returned (.tuple #[])) W2) := Lib.hid (by
    rw [HQ.out]
    refine ⟨rfl, ?_, O0.out.trans o2⟩
    simpa only [List.append_assoc, List.flatten_cons, List.flatten_nil, List.append_nil, List.cons_append, List.nil_append] using h2)
  clear h2 o2 c0 c1 c2 c3 c4
  go_wp2_with fail
  go_end0
  exact FIN.out
set_option maxRecDepth 100000 in
set_option maxHeartbeats 1000000 in
theorem node_k1 {w0 w : World} {b : Nat} {d0 d1 d2 d3 : Value} {l nm : List Nat} {psn : List (List Nat)} {num op : Int} {aa : Option Addr} {ac : Nat} {al : Nat} (hT : Tab10 w0) (hn : -9007199254740992 ≤ num ∧ num ≤ 9007199254740992) (h : Wt w0 w b l d0 d1 d2 d3) (hlen : l.length + (itoaN num).length ≤ 1000000000) :
    Calls Tryz.prog 116 #[.pointer (some ⟨b, 0, none⟩), .agg (ecell 1 num op (st nm) (.slice aa al ac))] w (Wrote w0 b (l ++ (itoaN num)) d0 d1 d2 d3 w) := by
  have HLEN := Lib.hid hlen
  have HT := Lib.hid (tab_keep hT h.kp)
  have HN := Lib.hid hn
  obtain ⟨tn, htn⟩ : ∃ t, t = itoaN num := ⟨_, rfl⟩
  have HTL : Hid (Lt tn) := Lib.hid (by rw [htn]; exact itoaN_lt _)
  have CI : Hid (∀ W, Kp w W → Calls Tryz.prog 147 #[.int .i64 num] W fun e w' => e = .returned (.string (st tn)) ∧ Kp W w') := Lib.hid (fun W hk => by rw [htn]; exact Itoa_any HN.out.1 HN.out.2 (tab_keep HT.out hk))
  rw [← htn] at HLEN ⊢
  obtain ⟨Q, hQ⟩ : ∃ Q, Q = Wrote w0 b (l ++ (tn)) d0 d1 d2 d3 w := ⟨_, rfl⟩
  rw [← hQ]
  have HQ := Lib.hid hQ
  obtain ⟨W0, hW0⟩ : ∃ W0, W0 = w.alloc (Obj.cells (ecell 1 num op (st nm) (.slice aa al ac)) 57) := ⟨_, rfl⟩
  have k0 : Kp w W0 := by rw [hW0]; exact kp_alloc w _
  have bb : Blk W0 w.heap.size 57 (ecell 1 num op (st nm) (.slice aa al ac)) := by rw [hW0]; exact Blk.new _ _ _
  have HNB : Hid (w.heap.size ≠ b) := Lib.hid (by have := h.lt; omega)
  have H0 : Hid (Wt w0 W0 b l d0 d1 d2 d3) := Lib.hid (h.keep k0)
  have HW0 := Lib.hid hW0; have BB := Lib.hid bb
  have O0 : Hid (Ok8 b w W0) := Lib.hid (Ok8.of_kp k0)
  have HZ0 : Hid (w.heap.size + 1 = W0.heap.size) := Lib.hid (by rw [hW0]; simp)
  have c0 := bb.cell 0 rfl; have c1 := bb.cell 1 rfl; have c2 := bb.cell 2 rfl; have c3 := bb.cell 3 rfl; have c4 := bb.cell 4 rfl
  rw [hW0] at c0 c1 c2 c3 c4
  clear h hQ hW0 k0 bb hlen hn hT htn
  unfold ecell at *
  have KW : Hid (Kp w W0) := Lib.hid (by rw [HW0.out]; exact kp_alloc _ _)
  go_enter Tryz.func116, Tryz.ntmps116
  go_wp2_with fail
  rw [← HW0.out]
  refine (CI.out _ KW.out).mono ?_
  rintro e W2 ⟨rfl, hk2⟩
  have H2 := Lib.hid (H0.out.keep hk2); have O2 := Lib.hid (O0.out.trans (Ok8.of_kp hk2))
  clear hk2 c0 c1 c2 c3 c4
  go_wp2_with fail
  refine (put_one (x := tn) H2.out rfl rfl HTL.out (by first | exact HLEN.out | (have := HLEN.out; simp only [List.length_append, List.length_cons, List.length_nil, List.flatten_cons, List.flatten_nil] at this ⊢; omega))).mono ?_
  rintro e W3 ⟨rfl, h3, o3⟩
  have FIN : Hid (Q (.returned (.tuple #[])) W3) := Lib.hid (by
    rw [HQ.out]
    refine ⟨rfl, ?_, O2.out.trans o3⟩
    simpa only [List.append_assoc, List.flatten_cons, List.flatten_nil, List.append_nil, List.cons_append, List.nil_append] using h3)
  clear h3 o3 
  go_wp2_with fail
  go_end0
  exact FIN.out
set_option maxRecDepth 100000 in
set_option maxHeartbeats 1000000 in
theorem node_k10 {w0 w : World} {b : Nat} {d0 d1 d2 d3 : Value} {l nm : List Nat} {psn : List (List Nat)} {num op : Int} {aa : Option Addr} {ac : Nat} {al : Nat} (hT : Tab10 w0) (hn : -9007199254740992 ≤ num ∧ num ≤ 9007199254740992) (h : Wt w0 w b l d0 d1 d2 d3) (hlen : l.length + ([102, 108, 105, 112, 40] ++ itoaN num ++ [41]).length ≤ 1000000000) :
    Calls Tryz.prog 116 #[.pointer (some ⟨b, 0, none⟩), .agg (ecell 10 num op (st nm) (.slice aa al ac))] w (Wrote w0 b (l ++ ([102, 108, 105, 112, 40] ++ itoaN num ++ [41])) d0 d1 d2 d3 w) := by
  have HLEN := Lib.hid hlen
  have HT := Lib.hid (tab_keep hT h.kp)
  have HN := Lib.hid hn
  obtain ⟨tn, htn⟩ : ∃ t, t = itoaN num := ⟨_, rfl⟩
  have HTL : Hid (Lt tn) := Lib.hid (by rw [htn]; exact itoaN_lt _)
  have CI : Hid (∀ W, Kp w W → Calls Tryz.prog 147 #[.int .i64 num] W fun e w' => e = .returned (.string (st tn)) ∧ Kp W w') := Lib.hid (fun W hk => by rw [htn]; exact Itoa_any HN.out.1 HN.out.2 (tab_keep HT.out hk))
  rw [← htn] at HLEN ⊢
  obtain ⟨Q, hQ⟩ : ∃ Q, Q = Wrote w0 b (l ++ ([102, 108, 105, 112, 40] ++ tn ++ [41])) d0 d1 d2 d3 w := ⟨_, rfl⟩
  rw [← hQ]
  have HQ := Lib.hid hQ
  obtain ⟨W0, hW0⟩ : ∃ W0, W0 = w.alloc (Obj.cells (ecell 10 num op (st nm) (.slice aa al ac)) 57) := ⟨_, rfl⟩
  have k0 : Kp w W0 := by rw [hW0]; exact kp_alloc w _
  have bb : Blk W0 w.heap.size 57 (ecell 10 num op (st nm) (.slice aa al ac)) := by rw [hW0]; exact Blk.new _ _ _
  have HNB : Hid (w.heap.size ≠ b) := Lib.hid (by have := h.lt; omega)
  have H0 : Hid (Wt w0 W0 b l d0 d1 d2 d3) := Lib.hid (h.keep k0)
  have HW0 := Lib.hid hW0; have BB := Lib.hid bb
  have O0 : Hid (Ok8 b w W0) := Lib.hid (Ok8.of_kp k0)
  have HZ0 : Hid (w.heap.size + 1 = W0.heap.size) := Lib.hid (by rw [hW0]; simp)
  have c0 := bb.cell 0 rfl; have c1 := bb.cell 1 rfl; have c2 := bb.cell 2 rfl; have c3 := bb.cell 3 rfl; have c4 := bb.cell 4 rfl
  rw [hW0] at c0 c1 c2 c3 c4
  clear h hQ hW0 k0 bb hlen hn hT htn
  unfold ecell at *
  have KW : Hid (Kp w W0) := Lib.hid (by rw [HW0.out]; exact kp_alloc _ _)
  go_enter Tryz.func116, Tryz.ntmps116
  go_wp2_with fail
  rw [← HW0.out]
  refine (CI.out _ KW.out).mono ?_
  rintro e W2 ⟨rfl, hk2⟩
  have H2 := Lib.hid (H0.out.keep hk2); have O2 := Lib.hid (O0.out.trans (Ok8.of_kp hk2))
  clear hk2 c0 c1 c2 c3 c4
  go_wp2_with fail
  refine (put_some [[102, 108, 105, 112, 40], tn, [41]] H2.out rfl rfl (by intro x hx; simp at hx; rcases hx with rfl | rfl | rfl; exact const_lt (by decide); exact HTL.out; exact const_lt (by decide)) rfl (by simp) (by first | exact HLEN.out | (have := HLEN.out; simp only [List.length_append, List.length_cons, List.length_nil, List.flatten_cons, List.flatten_nil] at this ⊢; omega))).mono ?_
  rintro e W3 ⟨rfl, h3, o3⟩
  have FIN : Hid (Q (.returned (.tuple #[])) W3) := Lib.hid (by
    rw [HQ.out]
    refine ⟨rfl, ?_, O2.out.trans o3⟩
    simpa only [List.append_assoc, List.flatten_cons, List.flatten_nil, List.append_nil, List.cons_append, List.nil_append] using h3)
  clear h3 o3 
  go_wp2_with fail
  go_end0
  exact FIN.out
set_option maxRecDepth 100000 in
set_option maxHeartbeats 1000000 in
theorem node_k6 {w0 w : World} {b : Nat} {d0 d1 d2 d3 : Value} {l nm : List Nat} {psn : List (List Nat)} {num op : Int} {aa : Option Addr} {ac : Nat} {al : Nat} {x : T} {rx : Int} (hnm : Lt nm) (hA : Is w0 (.slice aa 1 ac) [rx]) (hK : Kids w0 b psn [x] [rx] d0 d1 d2 d3) (h : Wt w0 w b l d0 d1 d2 d3) (hlen : l.length + (([114, 101, 97, 100, 40, 34] ++ nm ++ [34, 44, 32]) ++ wrT psn x 0 ++ [41]).length ≤ 1000000000) :
    Calls Tryz.prog 116 #[.pointer (some ⟨b, 0, none⟩), .agg (ecell 6 num op (st nm) (.slice aa 1 ac))] w (Wrote w0 b (l ++ (([114, 101, 97, 100, 40, 34] ++ nm ++ [34, 44, 32]) ++ wrT psn x 0 ++ [41])) d0 d1 d2 d3 w) := by
  have HLEN := Lib.hid hlen
  have HNM := Lib.hid hnm
  obtain ⟨tx, htx⟩ : ∃ t, t = wrT psn x 0 := ⟨_, rfl⟩
  have KX := hK 0 x rx rfl rfl
  have FX : Hid (∀ (w : World) (l : List Nat), Wt w0 w b l d0 d1 d2 d3 → l.length + tx.length ≤ 1000000000 → Calls Tryz.prog 78 #[.pointer (some ⟨b, 0, none⟩), .int .i64 rx, .int .i64 0] w (Wrote w0 b (l ++ tx) d0 d1 d2 d3 w)) := Lib.hid (fun w l h1 h2 => by rw [htx] at h2 ⊢; exact KX w l 0 h1 (by omega) h2)
  rw [← htx] at HLEN ⊢
  obtain ⟨ga, oa, rfl, hac⟩ := hA.cell (j := 0) (by simp)
  have HAC := Lib.hid hac
  obtain ⟨Q, hQ⟩ : ∃ Q, Q = Wrote w0 b (l ++ (([114, 101, 97, 100, 40, 34] ++ nm ++ [34, 44, 32]) ++ tx ++ [41])) d0 d1 d2 d3 w := ⟨_, rfl⟩
  rw [← hQ]
  have HQ := Lib.hid hQ
  obtain ⟨W0, hW0⟩ : ∃ W0, W0 = w.alloc (Obj.cells (ecell 6 num op (st nm) (.slice (some ⟨ga, oa, none⟩) 1 ac)) 57) := ⟨_, rfl⟩
  have k0 : Kp w W0 := by rw [hW0]; exact kp_alloc w _
  have bb : Blk W0 w.heap.size 57 (ecell 6 num op (st nm) (.slice (some ⟨ga, oa, none⟩) 1 ac)) := by rw [hW0]; exact Blk.new _ _ _
  have HNB : Hid (w.heap.size ≠ b) := Lib.hid (by have := h.lt; omega)
  have H0 : Hid (Wt w0 W0 b l d0 d1 d2 d3) := Lib.hid (h.keep k0)
  have HW0 := Lib.hid hW0; have BB := Lib.hid bb
  have O0 : Hid (Ok8 b w W0) := Lib.hid (Ok8.of_kp k0)
  have HZ0 : Hid (w.heap.size + 1 = W0.heap.size) := Lib.hid (by rw [hW0]; simp)
  have c0 := bb.cell 0 rfl; have c1 := bb.cell 1 rfl; have c2 := bb.cell 2 rfl; have c3 := bb.cell 3 rfl; have c4 := bb.cell 4 rfl
  rw [hW0] at c0 c1 c2 c3 c4
  clear h hQ hW0 k0 bb hlen hnm htx KX hK hA hac
  unfold ecell at *
  go_enter Tryz.func116, Tryz.ntmps116
  go_wp2_with fail
  rw [← HW0.out]
  refine (put_some [[114, 101, 97, 100, 40, 34], nm, [34, 44, 32]] H0.out HZ0.out rfl (by intro x hx; simp at hx; rcases hx with rfl | rfl | rfl; exact const_lt (by decide); exact HNM.out; exact const_lt (by decide)) rfl (by simp) (by first | exact HLEN.out | (have := HLEN.out; simp only [List.length_append, List.length_cons, List.length_nil, List.flatten_cons, List.flatten_nil] at this ⊢; omega))).mono ?_
  rintro e W2 ⟨rfl, h2, o2⟩
  have H2 := Lib.hid h2; have O2 := Lib.hid (O0.out.trans o2)
  have e4 := (BB.out.ok8 o2 HNB.out (by decide)).cell 4 rfl
  have a0 : W2.cell? ⟨ga, oa, none⟩ = some (.int .i64 rx) := by have := cell_kept (HAC.out 0 rx rfl) h2.kp; simpa using this
  clear h2 o2 c0 c1 c2 c3 c4
  go_wp2_with fail
  refine (FX.out W2 _ H2.out (by first | exact HLEN.out | (have := HLEN.out; simp only [List.length_append, List.length_cons, List.length_nil, List.flatten_cons, List.flatten_nil] at this ⊢; omega))).mono ?_
  rintro e W3 ⟨rfl, h3, o3⟩
  have H3 := Lib.hid h3; have O3 := Lib.hid (O2.out.trans o3)
  clear h3 o3 e4 a0
  go_wp2_with fail
  refine (put_one (x := [41]) H3.out rfl rfl (const_lt (by decide)) (by first | exact HLEN.out | (have := HLEN.out; simp only [List.length_append, List.length_cons, List.length_nil, List.flatten_cons, List.flatten_nil] at this ⊢; omega))).mono ?_
  rintro e W4 ⟨rfl, h4, o4⟩
  have FIN : Hid (Q (.returned (.tuple #[])) W4) := Lib.hid (by
    rw [HQ.out]
    refine ⟨rfl, ?_, O3.out.trans o4⟩
    simpa only [List.append_assoc, List.flatten_cons, List.flatten_nil, List.append_nil, List.cons_append, List.nil_append] using h4)
  clear h4 o4 
  go_wp2_with fail
  go_end0
  exact FIN.out
set_option maxRecDepth 100000 in
set_option maxHeartbeats 1000000 in
theorem node_k3 {w0 w : World} {b : Nat} {d0 d1 d2 d3 : Value} {l nm : List Nat} {psn : List (List Nat)} {num op : Int} {aa : Option Addr} {ac : Nat} {al : Nat} {ks : List T} {rs : List Int} (hrs : rs.length = ks.length) (hA : Is w0 (.slice aa ks.length ac) rs) (hnm : Lt nm) (hK : Kids w0 b psn ks rs d0 d1 d2 d3) (h : Wt w0 w b l d0 d1 d2 d3) (hlen : l.length + (nm ++ [40] ++ SrcN.join [44, 32] ((wrTs psn ks).map fun (c : Nat → List Nat) => c 0) ++ [41]).length ≤ 1000000000) :
    Calls Tryz.prog 116 #[.pointer (some ⟨b, 0, none⟩), .agg (ecell 3 num op (st nm) (.slice aa ks.length ac))] w (Wrote w0 b (l ++ (nm ++ [40] ++ SrcN.join [44, 32] ((wrTs psn ks).map fun (c : Nat → List Nat) => c 0) ++ [41])) d0 d1 d2 d3 w) := by
  have HLEN := Lib.hid hlen
  have CC : Hid (∀ W, Wt w0 W b l d0 d1 d2 d3 → Calls Tryz.prog 148 #[.pointer (some ⟨b, 0, none⟩), .agg (ecell 3 num op (st nm) (.slice aa ks.length ac))] W (Wrote w0 b (l ++ (nm ++ [40] ++ SrcN.join [44, 32] ((wrTs psn ks).map fun (c : Nat → List Nat) => c 0) ++ [41])) d0 d1 d2 d3 W)) := Lib.hid (fun W hW => call_any hrs hA hnm hK hW hlen)
  obtain ⟨tt, htt⟩ : ∃ t, t = (nm ++ [40] ++ SrcN.join [44, 32] ((wrTs psn ks).map fun (c : Nat → List Nat) => c 0) ++ [41]) := ⟨_, rfl⟩
  rw [← htt] at CC ⊢
  obtain ⟨Q, hQ⟩ : ∃ Q, Q = Wrote w0 b (l ++ tt) d0 d1 d2 d3 w := ⟨_, rfl⟩
  rw [← hQ]
  have HQ := Lib.hid hQ
  obtain ⟨W0, hW0⟩ : ∃ W0, W0 = w.alloc (Obj.cells (ecell 3 num op (st nm) (.slice aa ks.length ac)) 57) := ⟨_, rfl⟩
  have k0 : Kp w W0 := by rw [hW0]; exact kp_alloc w _
  have bb : Blk W0 w.heap.size 57 (ecell 3 num op (st nm) (.slice aa ks.length ac)) := by rw [hW0]; exact Blk.new _ _ _
  have HNB : Hid (w.heap.size ≠ b) := Lib.hid (by have := h.lt; omega)
  have H0 : Hid (Wt w0 W0 b l d0 d1 d2 d3) := Lib.hid (h.keep k0)
  have HW0 := Lib.hid hW0; have BB := Lib.hid bb
  have O0 : Hid (Ok8 b w W0) := Lib.hid (Ok8.of_kp k0)
  have HZ0 : Hid (w.heap.size + 1 = W0.heap.size) := Lib.hid (by rw [hW0]; simp)
  have c0 := bb.cell 0 rfl; have c1 := bb.cell 1 rfl; have c2 := bb.cell 2 rfl; have c3 := bb.cell 3 rfl; have c4 := bb.cell 4 rfl
  rw [hW0] at c0 c1 c2 c3 c4
  clear h hQ hW0 k0 bb hlen htt
  unfold ecell at *
  go_enter Tryz.func116, Tryz.ntmps116
  go_wp2_with fail
  rw [← HW0.out]
  refine (CC.out _ H0.out).mono ?_
  rintro e W2 ⟨rfl, h2, o2⟩
  have FIN : Hid (Q (.returned (.tuple #[])) W2) := Lib.hid (by
    rw [HQ.out]
    refine ⟨rfl, ?_, O0.out.trans o2⟩
    exact h2)
  clear h2 o2 c0 c1 c2 c3 c4
  go_wp2_with fail
  go_end0
  exact FIN.out
set_option maxRecDepth 100000 in
set_option maxHeartbeats 1000000 in
theorem node_k4a {w0 w : World} {b : Nat} {d0 d1 d2 d3 : Value} {l nm : List Nat} {psn : List (List Nat)} {num op : Int} {aa : Option Addr} {ac : Nat} {al : Nat} {x y : T} {rx ry : Int} (hG : Glob w0) (ho : 1 ≤ op ∧ op ≤ 7) (h1 : opLv op = 1) (hA : Is w0 (.slice aa 2 ac) [rx, ry]) (hK : Kids w0 b psn [x, y] [rx, ry] d0 d1 d2 d3) (h : Wt w0 w b l d0 d1 d2 d3) (hlen : l.length + (wrT psn x 2 ++ ([32] ++ opSg op ++ [32]) ++ wrT psn y 2).length ≤ 1000000000) :
    Calls Tryz.prog 116 #[.pointer (some ⟨b, 0, none⟩), .agg (ecell 4 num op (st nm) (.slice aa 2 ac))] w (Wrote w0 b (l ++ (wrT psn x 2 ++ ([32] ++ opSg op ++ [32]) ++ wrT psn y 2)) d0 d1 d2 d3 w) := by
  have HLEN := Lib.hid hlen
  have CC : Hid (∀ W, Wt w0 W b l d0 d1 d2 d3 → Calls Tryz.prog 149 #[.pointer (some ⟨b, 0, none⟩), .agg (ecell 4 num op (st nm) (.slice aa 2 ac))] W (Wrote w0 b (l ++ (wrT psn x 2 ++ ([32] ++ opSg op ++ [32]) ++ wrT psn y 2)) d0 d1 d2 d3 W)) := Lib.hid (fun W hW => binary_one hG ho h1 hA hK hW hlen)
  obtain ⟨tt, htt⟩ : ∃ t, t = (wrT psn x 2 ++ ([32] ++ opSg op ++ [32]) ++ wrT psn y 2) := ⟨_, rfl⟩
  rw [← htt] at CC ⊢
  obtain ⟨Q, hQ⟩ : ∃ Q, Q = Wrote w0 b (l ++ tt) d0 d1 d2 d3 w := ⟨_, rfl⟩
  rw [← hQ]
  have HQ := Lib.hid hQ
  obtain ⟨W0, hW0⟩ : ∃ W0, W0 = w.alloc (Obj.cells (ecell 4 num op (st nm) (.slice aa 2 ac)) 57) := ⟨_, rfl⟩
  have k0 : Kp w W0 := by rw [hW0]; exact kp_alloc w _
  have bb : Blk W0 w.heap.size 57 (ecell 4 num op (st nm) (.slice aa 2 ac)) := by rw [hW0]; exact Blk.new _ _ _
  have HNB : Hid (w.heap.size ≠ b) := Lib.hid (by have := h.lt; omega)
  have H0 : Hid (Wt w0 W0 b l d0 d1 d2 d3) := Lib.hid (h.keep k0)
  have HW0 := Lib.hid hW0; have BB := Lib.hid bb
  have O0 : Hid (Ok8 b w W0) := Lib.hid (Ok8.of_kp k0)
  have HZ0 : Hid (w.heap.size + 1 = W0.heap.size) := Lib.hid (by rw [hW0]; simp)
  have c0 := bb.cell 0 rfl; have c1 := bb.cell 1 rfl; have c2 := bb.cell 2 rfl; have c3 := bb.cell 3 rfl; have c4 := bb.cell 4 rfl
  rw [hW0] at c0 c1 c2 c3 c4
  clear h hQ hW0 k0 bb hlen htt hG ho h1 hA hK
  unfold ecell at *
  go_enter Tryz.func116, Tryz.ntmps116
  go_wp2_with fail
  rw [← HW0.out]
  refine (CC.out _ H0.out).mono ?_
  rintro e W2 ⟨rfl, h2, o2⟩
  have FIN : Hid (Q (.returned (.tuple #[])) W2) := Lib.hid (by
    rw [HQ.out]
    refine ⟨rfl, ?_, O0.out.trans o2⟩
    exact h2)
  clear h2 o2 c0 c1 c2 c3 c4
  go_wp2_with fail
  go_end0
  exact FIN.out
set_option maxRecDepth 100000 in
set_option maxHeartbeats 1000000 in
theorem node_k4b {w0 w : World} {b : Nat} {d0 d1 d2 d3 : Value} {l nm : List Nat} {psn : List (List Nat)} {num op : Int} {aa : Option Addr} {ac : Nat} {al : Nat} {x y : T} {rx ry : Int} (hG : Glob w0) (ho : 1 ≤ op ∧ op ≤ 7) (h1 : opLv op ≠ 1) (hA : Is w0 (.slice aa 2 ac) [rx, ry]) (hK : Kids w0 b psn [x, y] [rx, ry] d0 d1 d2 d3) (h : Wt w0 w b l d0 d1 d2 d3) (hlen : l.length + (wrT psn x (opLv op) ++ ([32] ++ opSg op ++ [32]) ++ wrT psn y (opLv op + 1)).length ≤ 1000000000) :
    Calls Tryz.prog 116 #[.pointer (some ⟨b, 0, none⟩), .agg (ecell 4 num op (st nm) (.slice aa 2 ac))] w (Wrote w0 b (l ++ (wrT psn x (opLv op) ++ ([32] ++ opSg op ++ [32]) ++ wrT psn y (opLv op + 1))) d0 d1 d2 d3 w) := by
  have HLEN := Lib.hid hlen
  have CC : Hid (∀ W, Wt w0 W b l d0 d1 d2 d3 → Calls Tryz.prog 149 #[.pointer (some ⟨b, 0, none⟩), .agg (ecell 4 num op (st nm) (.slice aa 2 ac))] W (Wrote w0 b (l ++ (wrT psn x (opLv op) ++ ([32] ++ opSg op ++ [32]) ++ wrT psn y (opLv op + 1))) d0 d1 d2 d3 W)) := Lib.hid (fun W hW => binary_more hG ho h1 hA hK hW hlen)
  obtain ⟨tt, htt⟩ : ∃ t, t = (wrT psn x (opLv op) ++ ([32] ++ opSg op ++ [32]) ++ wrT psn y (opLv op + 1)) := ⟨_, rfl⟩
  rw [← htt] at CC ⊢
  obtain ⟨Q, hQ⟩ : ∃ Q, Q = Wrote w0 b (l ++ tt) d0 d1 d2 d3 w := ⟨_, rfl⟩
  rw [← hQ]
  have HQ := Lib.hid hQ
  obtain ⟨W0, hW0⟩ : ∃ W0, W0 = w.alloc (Obj.cells (ecell 4 num op (st nm) (.slice aa 2 ac)) 57) := ⟨_, rfl⟩
  have k0 : Kp w W0 := by rw [hW0]; exact kp_alloc w _
  have bb : Blk W0 w.heap.size 57 (ecell 4 num op (st nm) (.slice aa 2 ac)) := by rw [hW0]; exact Blk.new _ _ _
  have HNB : Hid (w.heap.size ≠ b) := Lib.hid (by have := h.lt; omega)
  have H0 : Hid (Wt w0 W0 b l d0 d1 d2 d3) := Lib.hid (h.keep k0)
  have HW0 := Lib.hid hW0; have BB := Lib.hid bb
  have O0 : Hid (Ok8 b w W0) := Lib.hid (Ok8.of_kp k0)
  have HZ0 : Hid (w.heap.size + 1 = W0.heap.size) := Lib.hid (by rw [hW0]; simp)
  have c0 := bb.cell 0 rfl; have c1 := bb.cell 1 rfl; have c2 := bb.cell 2 rfl; have c3 := bb.cell 3 rfl; have c4 := bb.cell 4 rfl
  rw [hW0] at c0 c1 c2 c3 c4
  clear h hQ hW0 k0 bb hlen htt hG ho h1 hA hK
  unfold ecell at *
  go_enter Tryz.func116, Tryz.ntmps116
  go_wp2_with fail
  rw [← HW0.out]
  refine (CC.out _ H0.out).mono ?_
  rintro e W2 ⟨rfl, h2, o2⟩
  have FIN : Hid (Q (.returned (.tuple #[])) W2) := Lib.hid (by
    rw [HQ.out]
    refine ⟨rfl, ?_, O0.out.trans o2⟩
    exact h2)
  clear h2 o2 c0 c1 c2 c3 c4
  go_wp2_with fail
  go_end0
  exact FIN.out
set_option maxRecDepth 100000 in
set_option maxHeartbeats 1000000 in
theorem node_k5 {w0 w : World} {b : Nat} {d0 d1 d2 d3 : Value} {l nm : List Nat} {psn : List (List Nat)} {num op : Int} {aa : Option Addr} {ac : Nat} {al : Nat} {x y z : T} {rx ry rz : Int} (hA : Is w0 (.slice aa 3 ac) [rx, ry, rz]) (hK : Kids w0 b psn [x, y, z] [rx, ry, rz] d0 d1 d2 d3) (h : Wt w0 w b l d0 d1 d2 d3) (hlen : l.length + ([105, 102, 32] ++ wrT psn x 0 ++ [32, 116, 104, 101, 110, 32] ++ wrT psn y 0 ++ [32, 101, 108, 115, 101, 32] ++ wrT psn z 0).length ≤ 1000000000) :
    Calls Tryz.prog 116 #[.pointer (some ⟨b, 0, none⟩), .agg (ecell 5 num op (st nm) (.slice aa 3 ac))] w (Wrote w0 b (l ++ ([105, 102, 32] ++ wrT psn x 0 ++ [32, 116, 104, 101, 110, 32] ++ wrT psn y 0 ++ [32, 101, 108, 115, 101, 32] ++ wrT psn z 0)) d0 d1 d2 d3 w) := by
  have HLEN := Lib.hid hlen
  have CC : Hid (∀ W, Wt w0 W b l d0 d1 d2 d3 → Calls Tryz.prog 150 #[.pointer (some ⟨b, 0, none⟩), .agg (ecell 5 num op (st nm) (.slice aa 3 ac))] W (Wrote w0 b (l ++ ([105, 102, 32] ++ wrT psn x 0 ++ [32, 116, 104, 101, 110, 32] ++ wrT psn y 0 ++ [32, 101, 108, 115, 101, 32] ++ wrT psn z 0)) d0 d1 d2 d3 W)) := Lib.hid (fun W hW => choice_any hA hK hW hlen)
  obtain ⟨tt, htt⟩ : ∃ t, t = ([105, 102, 32] ++ wrT psn x 0 ++ [32, 116, 104, 101, 110, 32] ++ wrT psn y 0 ++ [32, 101, 108, 115, 101, 32] ++ wrT psn z 0) := ⟨_, rfl⟩
  rw [← htt] at CC ⊢
  obtain ⟨Q, hQ⟩ : ∃ Q, Q = Wrote w0 b (l ++ tt) d0 d1 d2 d3 w := ⟨_, rfl⟩
  rw [← hQ]
  have HQ := Lib.hid hQ
  obtain ⟨W0, hW0⟩ : ∃ W0, W0 = w.alloc (Obj.cells (ecell 5 num op (st nm) (.slice aa 3 ac)) 57) := ⟨_, rfl⟩
  have k0 : Kp w W0 := by rw [hW0]; exact kp_alloc w _
  have bb : Blk W0 w.heap.size 57 (ecell 5 num op (st nm) (.slice aa 3 ac)) := by rw [hW0]; exact Blk.new _ _ _
  have HNB : Hid (w.heap.size ≠ b) := Lib.hid (by have := h.lt; omega)
  have H0 : Hid (Wt w0 W0 b l d0 d1 d2 d3) := Lib.hid (h.keep k0)
  have HW0 := Lib.hid hW0; have BB := Lib.hid bb
  have O0 : Hid (Ok8 b w W0) := Lib.hid (Ok8.of_kp k0)
  have HZ0 : Hid (w.heap.size + 1 = W0.heap.size) := Lib.hid (by rw [hW0]; simp)
  have c0 := bb.cell 0 rfl; have c1 := bb.cell 1 rfl; have c2 := bb.cell 2 rfl; have c3 := bb.cell 3 rfl; have c4 := bb.cell 4 rfl
  rw [hW0] at c0 c1 c2 c3 c4
  clear h hQ hW0 k0 bb hlen htt hA hK
  unfold ecell at *
  go_enter Tryz.func116, Tryz.ntmps116
  go_wp2_with fail
  rw [← HW0.out]
  refine (CC.out _ H0.out).mono ?_
  rintro e W2 ⟨rfl, h2, o2⟩
  have FIN : Hid (Q (.returned (.tuple #[])) W2) := Lib.hid (by
    rw [HQ.out]
    refine ⟨rfl, ?_, O0.out.trans o2⟩
    exact h2)
  clear h2 o2 c0 c1 c2 c3 c4
  go_wp2_with fail
  go_end0
  exact FIN.out
end By
end Go.Proofs.YtmflgfojicaecaaGreatDoor

/- The writer's node, fourth part: the writing of a parameter, of any node, and of an expression. Conditions: the text has at most a thousand million bytes; the package variables that the code reads lie in memory. -/
namespace Go.Proofs.YtmflgfojicaecaaGreatDoor
namespace By
open Go.RowKit WireN LexN SrcN
set_option linter.unusedVariables false
set_option linter.unusedSimpArgs false

theorem put_one_d {w0 w w1 : World} {b g : Nat} {d0 d1 d2 d3 : Value} {l x : List Nat} (h : Wt w0 w b l d0 d1 d2 d3) (hg : g = w.heap.size) (hw : w1 = (w.alloc (Obj.cells #[.string (st x)] 9)).drew) (hx : Lt x) (hlen : l.length + x.length ≤ 1000000000) :
    Calls Tryz.prog 69 #[.pointer (some ⟨b, 0, none⟩), .slice (some ⟨g, 0, none⟩) 1 1] w1 (Wrote w0 b (l ++ x) d0 d1 d2 d3 w) := by
  subst hw
  subst hg
  have hk := Kp.trans (kp_alloc w (Obj.cells #[.string (st x)] 9)) (kp_drew _)
  have := put_any (parts := [x]) (h.keep hk) (Blk.new w 9 #[.string (st x)]) (by have := h.lt; omega) (by simpa using hx) (by simp) (by simpa using hlen)
  simp only [List.flatten_cons, List.flatten_nil, List.append_nil] at this
  exact this.mono fun e w' hh => ⟨hh.1, hh.2.1, (Ok8.of_kp hk).trans hh.2.2⟩
set_option maxRecDepth 100000 in
set_option maxHeartbeats 1000000 in
theorem node_k2 {w0 w : World} {b : Nat} {d0 d1 d2 d3 : Value} {l nm : List Nat} {psn : List (List Nat)} {num op : Int} {aa : Option Addr} {ac : Nat} {al : Nat} {pa : Option Addr} {pc : Nat} (hP : Sts w0 (.slice pa psn.length pc) psn) (hn : 0 ≤ num ∧ num < psn.length) (h : Wt w0 w b l d0 d1 (.slice pa psn.length pc) d3) (hlen : l.length + (psn.getD num.toNat []).length ≤ 1000000000) :
    Calls Tryz.prog 116 #[.pointer (some ⟨b, 0, none⟩), .agg (ecell 2 num op (st nm) (.slice aa al ac))] w (Wrote w0 b (l ++ (psn.getD num.toNat [])) d0 d1 (.slice pa psn.length pc) d3 w) := by
  have HLEN := Lib.hid hlen
  obtain ⟨m, rfl⟩ : ∃ m : Nat, num = (m : Int) := ⟨num.toNat, by omega⟩
  have hm : m < psn.length := by omega
  obtain ⟨p, hp⟩ : ∃ p, psn[m]? = some p := ⟨_, List.getElem?_eq_getElem hm⟩
  have HPL : Hid (Lt p) := Lib.hid (hP.ok p (List.mem_of_getElem? hp)).1
  have et : psn.getD (m : Int).toNat [] = p := by rw [Int.toNat_natCast, List.getD_eq_getElem?_getD, hp]; rfl
  rw [et] at HLEN ⊢
  obtain ⟨⟨ao, cc, e1, h6, h3⟩, -⟩ := hP
  simp only [Value.slice.injEq] at e1
  obtain ⟨rfl, -, rfl⟩ := e1
  rcases h3 with h0 | ⟨gp, op', rfl, -, hc⟩
  · rw [h0] at hp; cases hp
  have hcp := hc m p hp
  have HCP := Lib.hid hcp
  obtain ⟨pl, hpl⟩ : ∃ n, n = psn.length := ⟨_, rfl⟩
  rw [← hpl] at hm h6 h ⊢
  obtain ⟨Q, hQ⟩ : ∃ Q, Q = Wrote w0 b (l ++ p) d0 d1 (.slice (some ⟨gp, op', none⟩) pl pc) d3 w := ⟨_, rfl⟩
  rw [← hQ]
  have HQ := Lib.hid hQ
  obtain ⟨W0, hW0⟩ : ∃ W0, W0 = w.alloc (Obj.cells (ecell 2 (m : Int) op (st nm) (.slice aa al ac)) 57) := ⟨_, rfl⟩
  have k0 : Kp w W0 := by rw [hW0]; exact kp_alloc w _
  have bb : Blk W0 w.heap.size 57 (ecell 2 (m : Int) op (st nm) (.slice aa al ac)) := by rw [hW0]; exact Blk.new _ _ _
  have HNB : Hid (w.heap.size ≠ b) := Lib.hid (by have := h.lt; omega)
  have H0 : Hid (Wt w0 W0 b l d0 d1 (.slice (some ⟨gp, op', none⟩) pl pc) d3) := Lib.hid (h.keep k0)
  have HW0 := Lib.hid hW0; have BB := Lib.hid bb
  have O0 : Hid (Ok8 b w W0) := Lib.hid (Ok8.of_kp k0)
  have HZ0 : Hid (w.heap.size + 1 = W0.heap.size) := Lib.hid (by rw [hW0]; simp)
  have c0 := bb.cell 0 rfl; have c1 := bb.cell 1 rfl; have c2 := bb.cell 2 rfl; have c3 := bb.cell 3 rfl; have c4 := bb.cell 4 rfl
  have p4 := H0.out.cells.2.2.1
  have q0 : W0.cell? ⟨gp, op' + m, none⟩ = some (.string (st p)) := cell_kept HCP.out H0.out.kp
  rw [hW0] at c0
  clear h hQ hW0 k0 bb hlen hn hp et hc hcp hpl
  unfold ecell at *
  go_enter Tryz.func116, Tryz.ntmps116
  go_wp2_with fail
  rw [← HW0.out] at c0 ⊢
  go_region_held3 (fun w' => w'.cell? ⟨b, 4, none⟩ = some (.slice (some ⟨gp, op', none⟩) pl pc) ∧ w'.cell? ⟨w.heap.size, 1, none⟩ = some (.int .i64 (m : Nat)) ∧ w'.cell? ⟨gp, op' + m, none⟩ = some (.string (st p)))
    (first | go_keep | (exact ⟨h2.cells.2.2.1, (BB.out.ok8 o2 HNB.out (by decide)).cell 1 rfl, cell_kept HCP.out h2.kp⟩) | fail "no keep")
    (first | (go_at_call 69; refine (put_one_d (x := p) H0.out rfl rfl HPL.out HLEN.out).mono ?_; rintro e W2 ⟨rfl, h2, o2⟩) | fail "no arm")

  have FIN : Hid (Q (.returned (.tuple #[])) W2) := Lib.hid (by
    rw [HQ.out]
    refine ⟨rfl, ?_, O0.out.trans o2⟩
    exact h2)
  clear h2 o2 
  go_wp2_with fail
  go_end0
  exact FIN.out
theorem node_any {w0 w : World} {b : Nat} {d0 d1 d3 : Value} {l nm : List Nat} {psn : List (List Nat)} {k num op : Int} {aa pa : Option Addr} {ac pc : Nat} {ks : List T} {rs : List Int} (hG : Glob w0) (hT : Tab10 w0) (hP : Sts w0 (.slice pa psn.length pc) psn) (hrs : rs.length = ks.length) (hA : Is w0 (.slice aa ks.length ac) rs) (hok : okN k num op nm ks.length psn.length = true) (hnm : Lt nm) (hK : Kids w0 b psn ks rs d0 d1 (.slice pa psn.length pc) d3)
    (h : Wt w0 w b l d0 d1 (.slice pa psn.length pc) d3) (hlen : l.length + (txt psn k num op nm (wrTs psn ks)).length ≤ 1000000000) :
    Calls Tryz.prog 116 #[.pointer (some ⟨b, 0, none⟩), .agg (ecell k num op (st nm) (.slice aa ks.length ac))] w (Wrote w0 b (l ++ txt psn k num op nm (wrTs psn ks)) d0 d1 (.slice pa psn.length pc) d3 w) := by
  rcases okN_cases hok with ⟨rfl, a, b', rfl, rfl, hm⟩ | ⟨rfl, a, b', rfl, rfl, hm⟩ | ⟨rfl, rfl, rfl, a⟩ | ⟨rfl, rfl, a, b', rfl, hm⟩ | ⟨rfl, rfl, rfl, rfl, hm⟩ | ⟨rfl, rfl, rfl, a, hm⟩ | ⟨rfl, rfl, rfl, a, hm⟩ | ⟨rfl, rfl, rfl, a, hm⟩ | ⟨rfl, rfl, rfl, a, hm⟩ | ⟨rfl, a, b', rfl, rfl, hm⟩
  · exact node_k1 (psn := psn) hT ⟨a, b'⟩ h hlen
  · exact node_k2 (d2 := d0) hP ⟨a, b'⟩ h hlen
  · exact node_k3 (al := 0) hrs hA hnm hK h hlen
  · match ks, hm, rs, hrs with
    | [x, y], _, [rx, ry], _ =>
      by_cases h1 : opLv op = 1
      · have e : txt psn 4 0 op [] (wrTs psn [x, y]) = (wrT psn x 2 ++ ([32] ++ opSg op ++ [32]) ++ wrT psn y 2) := by
          simp [SrcN.txt, wrTs, opLf, h1]
        rw [e] at hlen ⊢
        exact node_k4a (al := 0) hG ⟨a, b'⟩ h1 hA hK h hlen
      · have e : txt psn 4 0 op [] (wrTs psn [x, y]) = (wrT psn x (opLv op) ++ ([32] ++ opSg op ++ [32]) ++ wrT psn y (opLv op + 1)) := by
          simp [SrcN.txt, wrTs, opLf, h1]
        rw [e] at hlen ⊢
        exact node_k4b (al := 0) hG ⟨a, b'⟩ h1 hA hK h hlen
  · match ks, hm, rs, hrs with
    | [x, y, z], _, [rx, ry, rz], _ => exact node_k5 (al := 0) hA hK h hlen
  · match ks, hm, rs, hrs with
    | [x], _, [rx], _ => exact node_k6 (al := 0) hnm hA hK h hlen
  · exact node_k7 (psn := psn) hnm h hlen
  · exact node_k8 (psn := psn) hnm h hlen
  · exact node_k9 (psn := psn) hnm h hlen
  · exact node_k10 (psn := psn) hT ⟨by omega, by omega⟩ h hlen
theorem flats_at : ∀ (ks : List T) (o i : Nat) (t : T), ks[i]? = some t → ∃ o' P R, o' = o + P.length ∧ flats ks o = P ++ (flat t o' ++ R) ∧ (roots ks o)[i]? = some ((o' + t.size - 1 : Nat) : Int)
  | t :: r, o, 0, u, h => by
    simp only [List.getElem?_cons_zero, Option.some.injEq] at h
    subst h
    exact ⟨o, [], flats r (o + t.size), rfl, by simp [flats], by simp [roots]⟩
  | t :: r, o, i + 1, u, h => by
    rw [List.getElem?_cons_succ] at h
    obtain ⟨o', P, R, h1, h2, h3⟩ := flats_at r (o + t.size) i u h
    refine ⟨o', flat t o ++ P, R, by rw [List.length_append, flat_length]; omega, by simp [flats, h2], ?_⟩
    simp only [roots, List.getElem?_cons_succ]
    exact h3
  | [], o, i, u, h => by simp at h
set_option maxRecDepth 100000 in
set_option maxHeartbeats 2000000 in
theorem expr_node {w0 w : World} {b : Nat} {d0 d1 : Value} {l nm : List Nat} {psn : List (List Nat)} {k num op : Int} {pa ba : Option Addr} {pc bc lv i : Nat} {ks : List T} {body : List XN} {rs : List Int} (hG : Glob w0) (hT : Tab10 w0) (hP : Sts w0 (.slice pa psn.length pc) psn) (hB : Nds w0 (.slice ba body.length bc) body) (hi : body[i]? = some ⟨k, num, op, nm, rs⟩) (hrs : rs.length = ks.length) (hok : okN k num op nm ks.length psn.length = true) (hK : Kids w0 b psn ks rs d0 d1 (.slice pa psn.length pc) (.slice ba body.length bc))
    (h : Wt w0 w b l d0 d1 (.slice pa psn.length pc) (.slice ba body.length bc)) (hlv : lv ≤ 4) (hlen : l.length + (wrT psn (.mk k num op nm ks) lv).length ≤ 1000000000) :
    Calls Tryz.prog 78 #[.pointer (some ⟨b, 0, none⟩), .int .i64 (i : Nat), .int .i64 (lv : Nat)] w (Wrote w0 b (l ++ wrT psn (.mk k num op nm ks) lv) d0 d1 (.slice pa psn.length pc) (.slice ba body.length bc) w) := by
  have hnm : Lt nm := (hB.ok _ (List.mem_of_getElem? hi)).1
  have hop : k = 4 → 1 ≤ op ∧ op ≤ 7 := by
    intro hk
    rcases okN_cases hok with ⟨h4, _⟩ | ⟨h4, _⟩ | ⟨h4, _⟩ | ⟨h4, _, a, b', _⟩ | ⟨h4, _⟩ | ⟨h4, _⟩ | ⟨h4, _⟩ | ⟨h4, _⟩ | ⟨h4, _⟩ | ⟨h4, _⟩ <;> first | omega | exact ⟨a, b'⟩
  have hbl : i < body.length := (List.getElem?_eq_some_iff.1 hi).1
  obtain ⟨⟨bo, bcc, e1, hb6, h3⟩, -⟩ := hB
  simp only [Value.slice.injEq] at e1
  obtain ⟨rfl, -, rfl⟩ := e1
  rcases h3 with h0 | ⟨gb, ob, rfl, hnd⟩
  · rw [h0] at hi; cases hi
  obtain ⟨aa, ac, n0, n1, n2, n3, n4, hA⟩ := hnd i _ hi
  simp only at n0 n1 n2 n3 n4 hA
  rw [hrs] at n4 hA
  have hK0 := h.kp
  have b5 := h.cells.2.2.2
  have m0 := cell_kept n0 hK0; have m1 := cell_kept n1 hK0; have m2 := cell_kept n2 hK0; have m3 := cell_kept n3 hK0; have m4 := cell_kept n4 hK0
  obtain ⟨tt, htt⟩ : ∃ t, t = txt psn k num op nm (wrTs psn ks) := ⟨_, rfl⟩
  obtain ⟨wt, hwt⟩ : ∃ t, t = wrT psn (.mk k num op nm ks) lv := ⟨_, rfl⟩
  have HWT : Hid (wt = if lvOf k op < lv then [40] ++ tt ++ [41] else tt) := Lib.hid (by rw [hwt, htt]; rfl)
  rw [← hwt] at hlen ⊢
  have HLEN := Lib.hid hlen
  obtain ⟨LV, hLV⟩ : ∃ x, x = lvOf k op := ⟨_, rfl⟩
  rw [← hLV] at HWT
  obtain ⟨D2, hD2⟩ : ∃ x, x = Value.slice pa psn.length pc := ⟨_, rfl⟩
  obtain ⟨bl, hbll⟩ : ∃ x, x = body.length := ⟨_, rfl⟩
  rw [← hbll] at hbl hb6 h b5 hK ⊢
  rw [← hD2] at h hK ⊢
  obtain ⟨al, hal⟩ : ∃ x, x = ks.length := ⟨_, rfl⟩
  obtain ⟨Q, hQ⟩ : ∃ Q, Q = Wrote w0 b (l ++ wt) d0 d1 D2 (.slice (some ⟨gb, ob, none⟩) bl bc) w := ⟨_, rfl⟩
  have CN : Hid (∀ (W : World) (l : List Nat), Wt w0 W b l d0 d1 D2 (.slice (some ⟨gb, ob, none⟩) bl bc) → l.length + tt.length ≤ 1000000000 → Calls Tryz.prog 116 #[.pointer (some ⟨b, 0, none⟩), .agg (ecell k num op (st nm) (.slice aa al ac))] W (Wrote w0 b (l ++ tt) d0 d1 D2 (.slice (some ⟨gb, ob, none⟩) bl bc) W)) := Lib.hid (fun W l h1 h2 => by
    rw [htt] at h2 ⊢
    rw [hal]
    rw [hD2] at h1 ⊢
    exact node_any hG hT hP hrs hA hok hnm (hD2 ▸ hK) h1 h2)
  have CL : Hid (∀ W, Kp w0 W → Calls Tryz.prog 115 #[.agg (ecell k num op (st nm) (.slice aa al ac))] W fun e w' => e = .returned (.int .i64 (LV : Nat)) ∧ Kp W w') := Lib.hid (fun W hk => by rw [hLV]; exact levelOf_any (hG.kp' hk) hop)
  rw [← hQ]
  have HQ := Lib.hid hQ
  rw [← hal] at m4
  obtain ⟨W0, hW0⟩ : ∃ W0, W0 = w.alloc (Obj.cells (ecell k num op (st nm) (.slice aa al ac)) 57) := ⟨_, rfl⟩
  have k0 : Kp w W0 := by rw [hW0]; exact kp_alloc w _
  have bb : Blk W0 w.heap.size 57 (ecell k num op (st nm) (.slice aa al ac)) := by rw [hW0]; exact Blk.new _ _ _
  have HNB : Hid (w.heap.size ≠ b) := Lib.hid (by have := h.lt; omega)
  have H0 : Hid (Wt w0 W0 b l d0 d1 D2 (.slice (some ⟨gb, ob, none⟩) bl bc)) := Lib.hid (h.keep k0)
  have HW0 := Lib.hid hW0; have BB := Lib.hid bb
  have O0 : Hid (Ok8 b w W0) := Lib.hid (Ok8.of_kp k0)
  have c0 := bb.cell 0 rfl; have c1 := bb.cell 1 rfl; have c2 := bb.cell 2 rfl; have c3 := bb.cell 3 rfl; have c4 := bb.cell 4 rfl
  rw [hW0] at c0 c1 c2 c3 c4
  have hLV4 : LV ≤ 4 := by
    rw [hLV]; unfold lvOf opLv
    repeat' split
    all_goals omega
  clear h hQ hW0 k0 bb htt hwt hlen hLV hD2 hbll hal hnd n0 n1 n2 n3 n4 hA hK0 hG hT hP hi hrs hok hK hnm hop
  unfold ecell at *
  by_cases hlt : LV < lv
  · have HWT2 : Hid (wt = [40] ++ tt ++ [41]) := Lib.hid (by rw [HWT.out, if_pos hlt])
    go_enter Tryz.func78, Tryz.ntmps78
    go_wp2_with fail
    rw [← HW0.out]
    refine (CL.out _ H0.out.kp).mono ?_
    rintro e W1 ⟨rfl, hk1⟩
    have H1 := Lib.hid (H0.out.keep hk1); have O1 := Lib.hid (O0.out.trans (Ok8.of_kp hk1)); have B1 := Lib.hid (BB.out.keep hk1)
    clear hk1 c0 c1 c2 c3 c4
    go_wp2_with fail
    refine (put_one (x := [40]) H1.out rfl rfl (const_lt (by decide)) (by have := HLEN.out; rw [HWT2.out] at this; simp only [List.length_append, List.length_cons, List.length_nil] at this ⊢; omega)).mono ?_
    rintro e W2 ⟨rfl, h2, o2⟩
    have H2 := Lib.hid h2; have O2 := Lib.hid (O1.out.trans o2)
    have b2 := B1.out.ok8 o2 HNB.out (by decide)
    have c0 := b2.cell 0 rfl; have c1 := b2.cell 1 rfl; have c2 := b2.cell 2 rfl; have c3 := b2.cell 3 rfl; have c4 := b2.cell 4 rfl
    clear h2 o2 b2
    go_wp2_with fail
    refine (CN.out _ _ H2.out (by have := HLEN.out; rw [HWT2.out] at this; simp only [List.length_append, List.length_cons, List.length_nil] at this ⊢; omega)).mono ?_
    rintro e W3 ⟨rfl, h3, o3⟩
    have H3 := Lib.hid h3; have O3 := Lib.hid (O2.out.trans o3)
    clear h3 o3 c0 c1 c2 c3 c4
    go_wp2_with fail
    refine (put_one (x := [41]) H3.out rfl rfl (const_lt (by decide)) (by have := HLEN.out; rw [HWT2.out] at this; simp only [List.length_append, List.length_cons, List.length_nil] at this ⊢; omega)).mono ?_
    rintro e W4 ⟨rfl, h4, o4⟩
    have FIN : Hid (Q (.returned (.tuple #[])) W4) := Lib.hid (by
      rw [HQ.out, HWT2.out]
      refine ⟨rfl, ?_, O3.out.trans o4⟩
      simpa only [List.append_assoc] using h4)
    clear h4 o4
    go_wp2_with fail
    go_end0
    exact FIN.out
  · have HWT2 : Hid (wt = tt) := Lib.hid (by rw [HWT.out, if_neg hlt])
    go_enter Tryz.func78, Tryz.ntmps78
    go_wp2_with fail
    rw [← HW0.out]
    refine (CL.out _ H0.out.kp).mono ?_
    rintro e W1 ⟨rfl, hk1⟩
    have H1 := Lib.hid (H0.out.keep hk1); have O1 := Lib.hid (O0.out.trans (Ok8.of_kp hk1))
    have b1 := BB.out.keep hk1
    clear hk1 c0 c1 c2 c3 c4
    have c0 := b1.cell 0 rfl; have c1 := b1.cell 1 rfl; have c2 := b1.cell 2 rfl; have c3 := b1.cell 3 rfl; have c4 := b1.cell 4 rfl
    clear b1
    go_wp2_with fail
    refine (CN.out _ _ H1.out (by have := HLEN.out; rw [HWT2.out] at this; exact this)).mono ?_
    rintro e W3 ⟨rfl, h3, o3⟩
    have FIN : Hid (Q (.returned (.tuple #[])) W3) := Lib.hid (by
      rw [HQ.out, HWT2.out]
      exact ⟨rfl, h3, O1.out.trans o3⟩)
    clear h3 o3 c0 c1 c2 c3 c4
    go_wp2_with fail
    go_end0
    exact FIN.out
theorem expr_wr {w0 : World} {b : Nat} {d0 d1 : Value} {psn : List (List Nat)} {pa ba : Option Addr} {pc bc : Nat} {body : List XN} (hG : Glob w0) (hT : Tab10 w0) (hP : Sts w0 (.slice pa psn.length pc) psn) (hB : Nds w0 (.slice ba body.length bc) body) :
    ∀ (n : Nat) (t : T) (o : Nat) (P R : List XN), t.size ≤ n → okT psn.length t = true → body = P ++ (flat t o ++ R) → o = P.length → ∀ (w : World) (l : List Nat) (lv : Nat), Wt w0 w b l d0 d1 (.slice pa psn.length pc) (.slice ba body.length bc) → lv ≤ 4 → l.length + (wrT psn t lv).length ≤ 1000000000 →
    Calls Tryz.prog 78 #[.pointer (some ⟨b, 0, none⟩), .int .i64 ((o + t.size - 1 : Nat) : Int), .int .i64 (lv : Nat)] w (Wrote w0 b (l ++ wrT psn t lv) d0 d1 (.slice pa psn.length pc) (.slice ba body.length bc) w)
  | 0, t, o, P, R, hn, _, _, _, _, _, _, _, _, _ => by have := size_pos t; omega
  | n + 1, .mk k num op nm ks, o, P, R, hn, hok, hbody, ho, w, l, lv, h, hlv, hlen => by
    obtain ⟨h1, h2⟩ := okT_split hok
    simp only [T.size] at hn ⊢
    have hi : body[o + sizes ks]? = some ⟨k, num, op, nm, roots ks o⟩ := by
      rw [hbody, List.getElem?_append_right (by omega)]
      rw [List.getElem?_append_left (by rw [flat_length]; simp only [T.size]; omega)]
      simp only [flat]
      rw [List.getElem?_append_right (by rw [flats_length]; omega), flats_length]
      have : o + sizes ks - P.length - sizes ks = 0 := by omega
      rw [this]; rfl
    have e : o + (sizes ks + 1) - 1 = o + sizes ks := by omega
    rw [e]
    refine expr_node hG hT hP hB hi (roots_length ks o) h1 ?_ h hlv hlen
    intro j t r hj hr w' l' lv' hw' hlv' hlen'
    obtain ⟨o', P', R', e1, e2, e3⟩ := flats_at ks o j t hj
    rw [e3] at hr
    obtain rfl := Option.some.inj hr
    refine expr_wr hG hT hP hB n t o' (P ++ P') (R' ++ ([⟨k, num, op, nm, roots ks o⟩] ++ R)) (by have := size_mem (List.mem_of_getElem? hj); omega) (okTs_mem h2 (List.mem_of_getElem? hj)) ?_ (by rw [List.length_append]; omega) w' l' lv' hw' hlv' hlen'
    rw [hbody]
    simp only [flat, e2, List.append_assoc, List.cons_append, List.nil_append]
end By
end Go.Proofs.YtmflgfojicaecaaGreatDoor
