/- Plain mathematics of frames: checksums, the bytes of a frame, what is read of a frame at any place, and that what was written is read back. No condition. -/
import Derived.Test.YtlfoikjbbbhbdaaWNm
namespace WireN
set_option linter.unusedVariables false
set_option linter.unusedSimpArgs false

def stp (p : Nat × Nat) (x : Nat) : Nat × Nat := ((p.1 + x) % 65521, (p.2 + (p.1 + x) % 65521) % 65521)
def ab (l : List Nat) : Nat × Nat := l.foldl stp (1, 0)
theorem ab_snoc (l : List Nat) (x : Nat) : ab (l ++ [x]) = stp (ab l) x := by simp [ab]
theorem ab_lt (l : List Nat) : (ab l).1 < 65521 ∧ (ab l).2 < 65521 := by
  have key : ∀ (l : List Nat) (p : Nat × Nat), p.1 < 65521 ∧ p.2 < 65521 → (l.foldl stp p).1 < 65521 ∧ (l.foldl stp p).2 < 65521 := by
    intro l
    induction l with
    | nil => intro p h; exact h
    | cons x l ih =>
      intro p h
      exact ih _ ⟨Nat.mod_lt _ (by omega), Nat.mod_lt _ (by omega)⟩
  exact key l (1, 0) ⟨by decide, by decide⟩
/-- The checksum of bytes. -/
def ck (l : List Nat) : Nat := (ab l).1 + 65536 * (ab l).2
theorem ck_lt (l : List Nat) : ck l < 4294967296 := by have := ab_lt l; unfold ck; omega
def le4 (c : Nat) : List Nat := [c % 256, c / 256 % 256, c / 65536 % 256, c / 16777216 % 256]
theorem le4_lt (c : Nat) : Lt (le4 c) := Lt.cons (by omega) (Lt.cons (by omega) (Lt.cons (by omega) (Lt.one (by omega))))
theorem le4_len (c : Nat) : (le4 c).length = 4 := rfl
theorem le4_inj {a b : Nat} (ha : a < 4294967296) (hb : b < 4294967296) (h : le4 a = le4 b) : a = b := by
  simp only [le4, List.cons.injEq, and_true] at h
  omega
/-- What of a frame is summed, and the bytes of a frame. -/
def body (k : Nat) (p : List Nat) : List Nat := k :: (uv p.length ++ p)
def fr (k : Nat) (p : List Nat) : List Nat := 247 :: (body k p ++ le4 (ck (body k p)))
theorem body_lt {k : Nat} {p : List Nat} (hk : k < 256) (hp : Lt p) : Lt (body k p) := Lt.cons hk ((Lt.uv _).append hp)
theorem fr_lt {k : Nat} {p : List Nat} (hk : k < 256) (hp : Lt p) : Lt (fr k p) := Lt.cons (by omega) ((body_lt hk hp).append (le4_lt _))
theorem body_len (k : Nat) (p : List Nat) : (body k p).length = 1 + (uv p.length).length + p.length := by simp [body]; omega
theorem fr_len (k : Nat) (p : List Nat) : (fr k p).length = 6 + (uv p.length).length + p.length := by
  simp only [fr, List.length_cons, List.length_append, body_len, le4_len]; omega

/-- What is read of a frame at a place: the kind, the payload, the next place, the error. -/
def nx (l : List Nat) (i : Int) : Nat × List Nat × Nat × Nat :=
  if i < 0 ∨ (l.length : Int) < i then (0, [], 0, 3)
  else if l.length = i.toNat then (0, [], 0, 7)
  else if l[i.toNat]?.getD 0 ≠ 247 then (0, [], 0, 6)
  else if l.length = i.toNat + 1 then (0, [], 0, 7)
  else if l[i.toNat + 1]?.getD 0 = 0 then (0, [], 0, 6)
  else if (rd l ((i.toNat + 2 : Nat) : Int)).2.2 ≠ 0 then (0, [], 0, (rd l ((i.toNat + 2 : Nat) : Int)).2.2)
  else if 2097152 < (rd l ((i.toNat + 2 : Nat) : Int)).1 then (0, [], 0, 2)
  else if l.length < (rd l ((i.toNat + 2 : Nat) : Int)).2.1 + (rd l ((i.toNat + 2 : Nat) : Int)).1 + 4 then (0, [], 0, 7)
  else if (l.drop ((rd l ((i.toNat + 2 : Nat) : Int)).2.1 + (rd l ((i.toNat + 2 : Nat) : Int)).1)).take 4 ≠
      le4 (ck ((l.take ((rd l ((i.toNat + 2 : Nat) : Int)).2.1 + (rd l ((i.toNat + 2 : Nat) : Int)).1)).drop (i.toNat + 1))) then (0, [], 0, 8)
  else (l[i.toNat + 1]?.getD 0, (l.drop (rd l ((i.toNat + 2 : Nat) : Int)).2.1).take (rd l ((i.toNat + 2 : Nat) : Int)).1,
    (rd l ((i.toNat + 2 : Nat) : Int)).2.1 + (rd l ((i.toNat + 2 : Nat) : Int)).1 + 4, 0)

section
variable {l : List Nat} {i : Nat}
theorem nx_range {i : Int} (h : i < 0 ∨ (l.length : Int) < i) : nx l i = (0, [], 0, 3) := by rw [nx, if_pos h]
theorem nx_end0 (h : i = l.length) : nx l i = (0, [], 0, 7) := by rw [nx, if_neg (by omega), if_pos (by rw [Int.toNat_natCast]; exact h.symm)]
theorem nx_mark (h : i < l.length) (h1 : l[i]?.getD 0 ≠ 247) : nx l i = (0, [], 0, 6) := by
  rw [nx, if_neg (by omega), Int.toNat_natCast, if_neg (by omega), if_pos h1]
theorem nx_end1 (h : l.length = i + 1) (h1 : l[i]?.getD 0 = 247) : nx l i = (0, [], 0, 7) := by
  rw [nx, if_neg (by omega), Int.toNat_natCast, if_neg (by omega), if_neg (by simp [h1]), if_pos h]
theorem nx_kind (h : i + 1 < l.length) (h1 : l[i]?.getD 0 = 247) (h2 : l[i + 1]?.getD 0 = 0) : nx l i = (0, [], 0, 6) := by
  rw [nx, if_neg (by omega), Int.toNat_natCast, if_neg (by omega), if_neg (by simp [h1]), if_neg (by omega), if_pos h2]
theorem nx_len {n p e : Nat} (h : i + 1 < l.length) (h1 : l[i]?.getD 0 = 247) (h2 : l[i + 1]?.getD 0 ≠ 0) (hr : rd l ((i + 2 : Nat) : Int) = (n, p, e)) (he : e ≠ 0) : nx l i = (0, [], 0, e) := by
  rw [nx, if_neg (by omega), Int.toNat_natCast, if_neg (by omega), if_neg (by simp [h1]), if_neg (by omega), if_neg h2, hr, if_pos he]
theorem nx_limit {n p : Nat} (h : i + 1 < l.length) (h1 : l[i]?.getD 0 = 247) (h2 : l[i + 1]?.getD 0 ≠ 0) (hr : rd l ((i + 2 : Nat) : Int) = (n, p, 0)) (hn : 2097152 < n) : nx l i = (0, [], 0, 2) := by
  rw [nx, if_neg (by omega), Int.toNat_natCast, if_neg (by omega), if_neg (by simp [h1]), if_neg (by omega), if_neg h2, hr, if_neg (by simp), if_pos hn]
theorem nx_end2 {n p : Nat} (h : i + 1 < l.length) (h1 : l[i]?.getD 0 = 247) (h2 : l[i + 1]?.getD 0 ≠ 0) (hr : rd l ((i + 2 : Nat) : Int) = (n, p, 0)) (hn : n ≤ 2097152) (hp : l.length < p + n + 4) : nx l i = (0, [], 0, 7) := by
  rw [nx, if_neg (by omega), Int.toNat_natCast, if_neg (by omega), if_neg (by simp [h1]), if_neg (by omega), if_neg h2, hr, if_neg (by simp), if_neg (show ¬ 2097152 < n by omega), if_pos hp]
theorem nx_sum {n p : Nat} (h : i + 1 < l.length) (h1 : l[i]?.getD 0 = 247) (h2 : l[i + 1]?.getD 0 ≠ 0) (hr : rd l ((i + 2 : Nat) : Int) = (n, p, 0)) (hn : n ≤ 2097152) (hp : p + n + 4 ≤ l.length)
    (hs : (l.drop (p + n)).take 4 ≠ le4 (ck ((l.take (p + n)).drop (i + 1)))) : nx l i = (0, [], 0, 8) := by
  rw [nx, if_neg (by omega), Int.toNat_natCast, if_neg (by omega), if_neg (by simp [h1]), if_neg (by omega), if_neg h2, hr, if_neg (by simp), if_neg (show ¬ 2097152 < n by omega), if_neg (show ¬ l.length < p + n + 4 by omega), if_pos hs]
theorem nx_ok {n p : Nat} (h : i + 1 < l.length) (h1 : l[i]?.getD 0 = 247) (h2 : l[i + 1]?.getD 0 ≠ 0) (hr : rd l ((i + 2 : Nat) : Int) = (n, p, 0)) (hn : n ≤ 2097152) (hp : p + n + 4 ≤ l.length)
    (hs : (l.drop (p + n)).take 4 = le4 (ck ((l.take (p + n)).drop (i + 1)))) : nx l i = (l[i + 1]?.getD 0, (l.drop p).take n, p + n + 4, 0) := by
  rw [nx, if_neg (by omega), Int.toNat_natCast, if_neg (by omega), if_neg (by simp [h1]), if_neg (by omega), if_neg h2, hr, if_neg (by simp), if_neg (show ¬ 2097152 < n by omega), if_neg (show ¬ l.length < p + n + 4 by omega), if_neg (by simp [hs])]
end

/-- A frame that was written is read back. -/
theorem nx_back (a q : List Nat) {k : Nat} {p : List Nat} (hk : k ≠ 0) (hp : p.length ≤ 2097152) : nx (a ++ (fr k p ++ q)) (a.length : Nat) = (k, p, a.length + (fr k p).length, 0) := by
  obtain ⟨U, hU⟩ : ∃ U, U = uv p.length := ⟨_, rfl⟩
  obtain ⟨C, hC⟩ : ∃ C, C = le4 (ck (body k p)) := ⟨_, rfl⟩
  have hbody : body k p = k :: (U ++ p) := by rw [hU]; rfl
  have hC4 : C.length = 4 := by rw [hC]; rfl
  have hl : a ++ (fr k p ++ q) = a ++ 247 :: k :: (U ++ (p ++ (C ++ q))) := by
    have h1 : fr k p = 247 :: (body k p ++ C) := by rw [hC]; rfl
    rw [h1, hbody]; simp
  have hfl : (fr k p).length = 6 + U.length + p.length := by rw [fr_len, hU]
  have e0 : (a ++ 247 :: k :: (U ++ (p ++ (C ++ q))))[a.length]?.getD 0 = 247 := by simp
  have e1 : (a ++ 247 :: k :: (U ++ (p ++ (C ++ q))))[a.length + 1]?.getD 0 = k := by
    rw [List.getElem?_append_right (by omega)]; simp
  have hll : (a ++ 247 :: k :: (U ++ (p ++ (C ++ q)))).length = a.length + (6 + U.length + p.length) + q.length := by
    simp only [List.length_append, List.length_cons, hC4]; omega
  have hr : rd (a ++ 247 :: k :: (U ++ (p ++ (C ++ q)))) ((a.length + 2 : Nat) : Int) = (p.length, a.length + 2 + U.length, 0) := by
    have := rd_back (a ++ [247, k]) (p ++ (C ++ q)) (n := p.length) (by omega)
    rw [← hU] at this
    simpa using this
  have d0 : (a ++ 247 :: k :: (U ++ (p ++ (C ++ q)))).drop (a.length + 2 + U.length) = p ++ (C ++ q) := by
    rw [← List.drop_drop, ← List.drop_drop]; simp
  have d1 : (a ++ 247 :: k :: (U ++ (p ++ (C ++ q)))).drop (a.length + 2 + U.length + p.length) = C ++ q := by
    rw [← List.drop_drop, d0]; simp
  have d2 : ((a ++ 247 :: k :: (U ++ (p ++ (C ++ q)))).take (a.length + 2 + U.length + p.length)).drop (a.length + 1) = k :: (U ++ p) := by
    have e : a ++ 247 :: k :: (U ++ (p ++ (C ++ q))) = (a ++ [247]) ++ ((k :: (U ++ p)) ++ (C ++ q)) := by simp
    rw [List.drop_take, show a.length + 2 + U.length + p.length - (a.length + 1) = (k :: (U ++ p)).length by simp; omega, e, show a.length + 1 = (a ++ [247]).length by simp, List.drop_left, List.take_left]
  rw [hl, nx_ok (by rw [hll]; omega) e0 (by rw [e1]; exact hk) hr hp (by rw [hll]; omega) (by rw [d1, d2, ← hbody, ← hC, ← hC4, List.take_left]), e1, d0, List.take_left, hfl]
  rw [show a.length + 2 + U.length + p.length + 4 = a.length + (6 + U.length + p.length) by omega]
theorem nx_err (l : List Nat) (i : Int) : (nx l i).2.2.2 ≤ 8 := by
  unfold nx
  have := rd_err l ((i.toNat + 2 : Nat) : Int)
  repeat' split
  all_goals (first | decide | (show (rd l ((i.toNat + 2 : Nat) : Int)).2.2 ≤ 8; omega) | exact Nat.zero_le _)
end WireN
