/- Plain mathematics of frames: checksums, the bytes of a frame, what is read of a frame at any place, and that what was written is read back. No condition. -/
import Derived.Test.YtfobogcccbddbaaGreatDoorZaa
import Derived.Test.YtfobogcccbddbaaGreatDoorRows
import Derived.Lib.SplitLaws
import Derived.Test.YtfobogcccbddbaaGreatDoorZab
namespace WireN
set_option linter.unusedVariables false
set_option linter.unusedSimpArgs false

def stp (p : Nat × Nat) (x : Nat) : Nat × Nat := ((p.1 + x) % 65521, (p.2 + (p.1 + x) % 65521) % 65521)
def ab (l : List Nat) : Nat × Nat := l.foldl stp (1, 0)
theorem ab_snoc (l : List Nat) (x : Nat) : ab (l ++ [x]) = stp (ab l) x := by simp [ab]
theorem ab_lt (l : List Nat) : (ab l).1 < 65521 ∧ (ab l).2 < 65521 := by
  have key : ∀ (l : List Nat) (p : Nat × Nat), p.1 < 65521 ∧ p.2 < 65521 → (l.foldl stp p).1 < 65521 ∧ (l.foldl stp p).2 < 65521 := by
    intro l
    induction l with
    | nil => intro p h; exact h
    | cons x l ih =>
      intro p h
      exact ih _ ⟨Nat.mod_lt _ (by omega), Nat.mod_lt _ (by omega)⟩
  exact key l (1, 0) ⟨by decide, by decide⟩
/-- The checksum of bytes. -/
def ck (l : List Nat) : Nat := (ab l).1 + 65536 * (ab l).2
theorem ck_lt (l : List Nat) : ck l < 4294967296 := by have := ab_lt l; unfold ck; omega
def le4 (c : Nat) : List Nat := [c % 256, c / 256 % 256, c / 65536 % 256, c / 16777216 % 256]
theorem le4_lt (c : Nat) : Lt (le4 c) := Lt.cons (by omega) (Lt.cons (by omega) (Lt.cons (by omega) (Lt.one (by omega))))
theorem le4_len (c : Nat) : (le4 c).length = 4 := rfl
theorem le4_inj {a b : Nat} (ha : a < 4294967296) (hb : b < 4294967296) (h : le4 a = le4 b) : a = b := by
  simp only [le4, List.cons.injEq, and_true] at h
  omega
/-- What of a frame is summed, and the bytes of a frame. -/
def body (k : Nat) (p : List Nat) : List Nat := k :: (uv p.length ++ p)
def fr (k : Nat) (p : List Nat) : List Nat := 247 :: (body k p ++ le4 (ck (body k p)))
theorem body_lt {k : Nat} {p : List Nat} (hk : k < 256) (hp : Lt p) : Lt (body k p) := Lt.cons hk ((Lt.uv _).append hp)
theorem fr_lt {k : Nat} {p : List Nat} (hk : k < 256) (hp : Lt p) : Lt (fr k p) := Lt.cons (by omega) ((body_lt hk hp).append (le4_lt _))
theorem body_len (k : Nat) (p : List Nat) : (body k p).length = 1 + (uv p.length).length + p.length := by simp [body]; omega
theorem fr_len (k : Nat) (p : List Nat) : (fr k p).length = 6 + (uv p.length).length + p.length := by
  simp only [fr, List.length_cons, List.length_append, body_len, le4_len]; omega

/-- What is read of a frame at a place: the kind, the payload, the next place, the error. -/
def nx (l : List Nat) (i : Int) : Nat × List Nat × Nat × Nat :=
  if i < 0 ∨ (l.length : Int) < i then (0, [], 0, 3)
  else if l.length = i.toNat then (0, [], 0, 7)
  else if l[i.toNat]?.getD 0 ≠ 247 then (0, [], 0, 6)
  else if l.length = i.toNat + 1 then (0, [], 0, 7)
  else if l[i.toNat + 1]?.getD 0 = 0 then (0, [], 0, 6)
  else if (rd l ((i.toNat + 2 : Nat) : Int)).2.2 ≠ 0 then (0, [], 0, (rd l ((i.toNat + 2 : Nat) : Int)).2.2)
  else if 2097152 < (rd l ((i.toNat + 2 : Nat) : Int)).1 then (0, [], 0, 2)
  else if l.length < (rd l ((i.toNat + 2 : Nat) : Int)).2.1 + (rd l ((i.toNat + 2 : Nat) : Int)).1 + 4 then (0, [], 0, 7)
  else if (l.drop ((rd l ((i.toNat + 2 : Nat) : Int)).2.1 + (rd l ((i.toNat + 2 : Nat) : Int)).1)).take 4 ≠
      le4 (ck ((l.take ((rd l ((i.toNat + 2 : Nat) : Int)).2.1 + (rd l ((i.toNat + 2 : Nat) : Int)).1)).drop (i.toNat + 1))) then (0, [], 0, 8)
  else (l[i.toNat + 1]?.getD 0, (l.drop (rd l ((i.toNat + 2 : Nat) : Int)).2.1).take (rd l ((i.toNat + 2 : Nat) : Int)).1,
    (rd l ((i.toNat + 2 : Nat) : Int)).2.1 + (rd l ((i.toNat + 2 : Nat) : Int)).1 + 4, 0)

section
variable {l : List Nat} {i : Nat}
theorem nx_range {i : Int} (h : i < 0 ∨ (l.length : Int) < i) : nx l i = (0, [], 0, 3) := by rw [nx, if_pos h]
theorem nx_end0 (h : i = l.length) : nx l i = (0, [], 0, 7) := by rw [nx, if_neg (by omega), if_pos (by rw [Int.toNat_natCast]; exact h.symm)]
theorem nx_mark (h : i < l.length) (h1 : l[i]?.getD 0 ≠ 247) : nx l i = (0, [], 0, 6) := by
  rw [nx, if_neg (by omega), Int.toNat_natCast, if_neg (by omega), if_pos h1]
theorem nx_end1 (h : l.length = i + 1) (h1 : l[i]?.getD 0 = 247) : nx l i = (0, [], 0, 7) := by
  rw [nx, if_neg (by omega), Int.toNat_natCast, if_neg (by omega), if_neg (by simp [h1]), if_pos h]
theorem nx_kind (h : i + 1 < l.length) (h1 : l[i]?.getD 0 = 247) (h2 : l[i + 1]?.getD 0 = 0) : nx l i = (0, [], 0, 6) := by
  rw [nx, if_neg (by omega), Int.toNat_natCast, if_neg (by omega), if_neg (by simp [h1]), if_neg (by omega), if_pos h2]
theorem nx_len {n p e : Nat} (h : i + 1 < l.length) (h1 : l[i]?.getD 0 = 247) (h2 : l[i + 1]?.getD 0 ≠ 0) (hr : rd l ((i + 2 : Nat) : Int) = (n, p, e)) (he : e ≠ 0) : nx l i = (0, [], 0, e) := by
  rw [nx, if_neg (by omega), Int.toNat_natCast, if_neg (by omega), if_neg (by simp [h1]), if_neg (by omega), if_neg h2, hr, if_pos he]
theorem nx_limit {n p : Nat} (h : i + 1 < l.length) (h1 : l[i]?.getD 0 = 247) (h2 : l[i + 1]?.getD 0 ≠ 0) (hr : rd l ((i + 2 : Nat) : Int) = (n, p, 0)) (hn : 2097152 < n) : nx l i = (0, [], 0, 2) := by
  rw [nx, if_neg (by omega), Int.toNat_natCast, if_neg (by omega), if_neg (by simp [h1]), if_neg (by omega), if_neg h2, hr, if_neg (by simp), if_pos hn]
theorem nx_end2 {n p : Nat} (h : i + 1 < l.length) (h1 : l[i]?.getD 0 = 247) (h2 : l[i + 1]?.getD 0 ≠ 0) (hr : rd l ((i + 2 : Nat) : Int) = (n, p, 0)) (hn : n ≤ 2097152) (hp : l.length < p + n + 4) : nx l i = (0, [], 0, 7) := by
  rw [nx, if_neg (by omega), Int.toNat_natCast, if_neg (by omega), if_neg (by simp [h1]), if_neg (by omega), if_neg h2, hr, if_neg (by simp), if_neg (show ¬ 2097152 < n by omega), if_pos hp]
theorem nx_sum {n p : Nat} (h : i + 1 < l.length) (h1 : l[i]?.getD 0 = 247) (h2 : l[i + 1]?.getD 0 ≠ 0) (hr : rd l ((i + 2 : Nat) : Int) = (n, p, 0)) (hn : n ≤ 2097152) (hp : p + n + 4 ≤ l.length)
    (hs : (l.drop (p + n)).take 4 ≠ le4 (ck ((l.take (p + n)).drop (i + 1)))) : nx l i = (0, [], 0, 8) := by
  rw [nx, if_neg (by omega), Int.toNat_natCast, if_neg (by omega), if_neg (by simp [h1]), if_neg (by omega), if_neg h2, hr, if_neg (by simp), if_neg (show ¬ 2097152 < n by omega), if_neg (show ¬ l.length < p + n + 4 by omega), if_pos hs]
theorem nx_ok {n p : Nat} (h : i + 1 < l.length) (h1 : l[i]?.getD 0 = 247) (h2 : l[i + 1]?.getD 0 ≠ 0) (hr : rd l ((i + 2 : Nat) : Int) = (n, p, 0)) (hn : n ≤ 2097152) (hp : p + n + 4 ≤ l.length)
    (hs : (l.drop (p + n)).take 4 = le4 (ck ((l.take (p + n)).drop (i + 1)))) : nx l i = (l[i + 1]?.getD 0, (l.drop p).take n, p + n + 4, 0) := by
  rw [nx, if_neg (by omega), Int.toNat_natCast, if_neg (by omega), if_neg (by simp [h1]), if_neg (by omega), if_neg h2, hr, if_neg (by simp), if_neg (show ¬ 2097152 < n by omega), if_neg (show ¬ l.length < p + n + 4 by omega), if_neg (by simp [hs])]
end

/-- A frame that was written is read back. -/
theorem nx_back (a q : List Nat) {k : Nat} {p : List Nat} (hk : k ≠ 0) (hp : p.length ≤ 2097152) : nx (a ++ (fr k p ++ q)) (a.length : Nat) = (k, p, a.length + (fr k p).length, 0) := by
  obtain ⟨U, hU⟩ : ∃ U, U = uv p.length := ⟨_, rfl⟩
  obtain ⟨C, hC⟩ : ∃ C, C = le4 (ck (body k p)) := ⟨_, rfl⟩
  have hbody : body k p = k :: (U ++ p) := by rw [hU]; rfl
  have hC4 : C.length = 4 := by rw [hC]; rfl
  have hl : a ++ (fr k p ++ q) = a ++ 247 :: k :: (U ++ (p ++ (C ++ q))) := by
    have h1 : fr k p = 247 :: (body k p ++ C) := by rw [hC]; rfl
    rw [h1, hbody]; simp
  have hfl : (fr k p).length = 6 + U.length + p.length := by rw [fr_len, hU]
  have e0 : (a ++ 247 :: k :: (U ++ (p ++ (C ++ q))))[a.length]?.getD 0 = 247 := by simp
  have e1 : (a ++ 247 :: k :: (U ++ (p ++ (C ++ q))))[a.length + 1]?.getD 0 = k := by
    rw [List.getElem?_append_right (by omega)]; simp
  have hll : (a ++ 247 :: k :: (U ++ (p ++ (C ++ q)))).length = a.length + (6 + U.length + p.length) + q.length := by
    simp only [List.length_append, List.length_cons, hC4]; omega
  have hr : rd (a ++ 247 :: k :: (U ++ (p ++ (C ++ q)))) ((a.length + 2 : Nat) : Int) = (p.length, a.length + 2 + U.length, 0) := by
    have := rd_back (a ++ [247, k]) (p ++ (C ++ q)) (n := p.length) (by omega)
    rw [← hU] at this
    simpa using this
  have d0 : (a ++ 247 :: k :: (U ++ (p ++ (C ++ q)))).drop (a.length + 2 + U.length) = p ++ (C ++ q) := by
    rw [← List.drop_drop, ← List.drop_drop]; simp
  have d1 : (a ++ 247 :: k :: (U ++ (p ++ (C ++ q)))).drop (a.length + 2 + U.length + p.length) = C ++ q := by
    rw [← List.drop_drop, d0]; simp
  have d2 : ((a ++ 247 :: k :: (U ++ (p ++ (C ++ q)))).take (a.length + 2 + U.length + p.length)).drop (a.length + 1) = k :: (U ++ p) := by
    have e : a ++ 247 :: k :: (U ++ (p ++ (C ++ q))) = (a ++ [247]) ++ ((k :: (U ++ p)) ++ (C ++ q)) := by simp
    rw [List.drop_take, show a.length + 2 + U.length + p.length - (a.length + 1) = (k :: (U ++ p)).length by simp; omega, e, show a.length + 1 = (a ++ [247]).length by simp, List.drop_left, List.take_left]
  rw [hl, nx_ok (by rw [hll]; omega) e0 (by rw [e1]; exact hk) hr hp (by rw [hll]; omega) (by rw [d1, d2, ← hbody, ← hC, ← hC4, List.take_left]), e1, d0, List.take_left, hfl]
  rw [show a.length + 2 + U.length + p.length + 4 = a.length + (6 + U.length + p.length) by omega]
theorem nx_err (l : List Nat) (i : Int) : (nx l i).2.2.2 ≤ 8 := by
  unfold nx
  have := rd_err l ((i.toNat + 2 : Nat) : Int)
  repeat' split
  all_goals (first | decide | (show (rd l ((i.toNat + 2 : Nat) : Int)).2.2 ≤ 8; omega) | exact Nat.zero_le _)
end WireN

/- Plain mathematics of damaged frames: no beginning of a frame is a frame, and a frame of which one byte was changed is not read as a frame of the same length; chains of frames. No condition. -/
namespace WireN
set_option linter.unusedVariables false
set_option linter.unusedSimpArgs false

theorem rd_inv {l : List Nat} {i n q : Nat} (h : rd l (i : Nat) = (n, q, 0)) :
    i ≤ l.length ∧ on (l.drop i) < (l.drop i).length ∧ short (on (l.drop i)) ((l.drop i)[on (l.drop i)]?.getD 0) = true ∧ n = jn ((l.drop i).take (on (l.drop i) + 1)) ∧ q = i + on (l.drop i) + 1 := by
  unfold rd at h
  split at h
  · simp at h
  · rename_i h0
    rw [Int.toNat_natCast] at h
    split at h
    · simp at h
    · rename_i h1
      split at h
      · rename_i h2
        simp only [Prod.mk.injEq, and_true] at h
        have := on_le (l.drop i)
        exact ⟨by omega, by omega, h2, h.1.symm, h.2.symm⟩
      · simp at h
/-- A number that is read is read of more bytes, too. -/
theorem rd_append {l : List Nat} {i n q : Nat} (h : rd l (i : Nat) = (n, q, 0)) (m : List Nat) : rd (l ++ m) (i : Nat) = (n, q, 0) := by
  obtain ⟨h0, h1, h2, h3, h4⟩ := rd_inv h
  have hd : (l ++ m).drop i = l.drop i ++ m := List.drop_append_of_le_length h0
  have ho : on ((l ++ m).drop i) = on (l.drop i) := by rw [hd, on_append h1]
  rw [rd_ok (k := on (l.drop i)) (by rw [List.length_append]; omega) ho (by rw [hd, List.length_append]; omega) (by rw [hd, List.getElem?_append_left h1]; exact h2)]
  rw [hd, List.take_append_of_le_length (by omega), ← h3, ← h4]
/-- What a frame that is read has. -/
theorem nx_inv {l : List Nat} {i : Nat} (h : (nx l (i : Nat)).2.2.2 = 0) :
    i + 1 < l.length ∧ l[i]?.getD 0 = 247 ∧ l[i + 1]?.getD 0 ≠ 0 ∧ ∃ n q, rd l ((i + 2 : Nat) : Int) = (n, q, 0) ∧ n ≤ 2097152 ∧ q + n + 4 ≤ l.length ∧
      (l.drop (q + n)).take 4 = le4 (ck ((l.take (q + n)).drop (i + 1))) ∧ nx l (i : Nat) = (l[i + 1]?.getD 0, (l.drop q).take n, q + n + 4, 0) := by
  by_cases h0 : (l.length : Int) < (i : Nat)
  · rw [nx_range (.inr h0)] at h; simp at h
  · by_cases h1 : i = l.length
    · rw [nx_end0 h1] at h; simp at h
    · by_cases h2 : l[i]?.getD 0 = 247
      · by_cases h3 : l.length = i + 1
        · rw [nx_end1 h3 h2] at h; simp at h
        · by_cases h4 : l[i + 1]?.getD 0 = 0
          · rw [nx_kind (by omega) h2 h4] at h; simp at h
          · obtain ⟨⟨n, q, e⟩, hr⟩ : ∃ r, rd l ((i + 2 : Nat) : Int) = r := ⟨_, rfl⟩
            by_cases h5 : e = 0
            · subst h5
              by_cases h6 : 2097152 < n
              · rw [nx_limit (by omega) h2 h4 hr h6] at h; simp at h
              · by_cases h7 : l.length < q + n + 4
                · rw [nx_end2 (by omega) h2 h4 hr (by omega) h7] at h; simp at h
                · by_cases h8 : (l.drop (q + n)).take 4 = le4 (ck ((l.take (q + n)).drop (i + 1)))
                  · exact ⟨by omega, h2, h4, n, q, hr, by omega, by omega, h8, nx_ok (by omega) h2 h4 hr (by omega) (by omega) h8⟩
                  · rw [nx_sum (by omega) h2 h4 hr (by omega) (by omega) h8] at h; simp at h
            · rw [nx_len (by omega) h2 h4 hr h5] at h; exact absurd h h5
      · rw [nx_mark (by omega) h2] at h; simp at h
/-- How a frame lies. -/
theorem fr_read {k : Nat} {p : List Nat} (hk : k ≠ 0) (hp : p.length ≤ 2097152) : rd (fr k p) ((0 + 2 : Nat) : Int) = (p.length, 2 + (uv p.length).length, 0) := by
  have h := rd_back [247, k] (p ++ le4 (ck (body k p))) (n := p.length) (by omega)
  have e : [247, k] ++ (uv p.length ++ (p ++ le4 (ck (body k p)))) = fr k p := by simp [fr, body]
  rw [e] at h
  exact h
/-- No proper beginning of a frame is a frame. -/
theorem fr_begin {k : Nat} {p : List Nat} (hk : k ≠ 0) (hp : p.length ≤ 2097152) {m : Nat} (hm : m < (fr k p).length) : (nx ((fr k p).take m) ((0 : Nat) : Int)).2.2.2 ≠ 0 := by
  intro h
  obtain ⟨h1, h2, h3, n, q, hr, hn, hq, hs, -⟩ := nx_inv h
  have h4 := rd_append hr ((fr k p).drop m)
  rw [List.take_append_drop, fr_read hk hp] at h4
  simp only [Prod.mk.injEq, and_true] at h4
  have h5 := fr_len k p
  rw [List.length_take] at hq
  omega
theorem ab_fst (l : List Nat) : (ab l).1 = (1 + l.sum) % 65521 := by
  have key : ∀ (l : List Nat) (p : Nat × Nat), (l.foldl stp p).1 % 65521 = (p.1 + l.sum) % 65521 := by
    intro l
    induction l with
    | nil => intro p; simp
    | cons x l ih =>
      intro p
      rw [List.foldl_cons, ih]
      simp only [stp, List.sum_cons]
      omega
  have h := key l (1, 0)
  have h2 := (ab_lt l).1
  have h3 : (l.foldl stp (1, 0)).1 = (ab l).1 := rfl
  rw [h3, Nat.mod_eq_of_lt h2] at h
  exact h
theorem sum_set : ∀ (l : List Nat) (j y : Nat), j < l.length → (l.set j y).sum + l[j]?.getD 0 = l.sum + y
  | [], j, y, h => by simp at h
  | x :: l, 0, y, h => by simp; omega
  | x :: l, j + 1, y, h => by
    have := sum_set l j y (by simpa using h)
    simp only [List.set_cons_succ, List.sum_cons, List.getElem?_cons_succ]
    omega
/-- The checksum tells when a byte was changed. -/
theorem ck_set {l : List Nat} {j y : Nat} (hj : j < l.length) (hy : y < 256) (hl : Lt l) (h : ck (l.set j y) = ck l) : y = l[j]?.getD 0 := by
  have h1 := ab_lt l
  have h2 := ab_lt (l.set j y)
  have h3 : (ab (l.set j y)).1 = (ab l).1 := by unfold ck at h; omega
  rw [ab_fst, ab_fst] at h3
  have h4 := sum_set l j y hj
  have h5 := hl j
  omega
/-- A frame of which one byte was changed is not read as a frame of the same length. -/
theorem fr_damage {k : Nat} {p : List Nat} (hk : k ≠ 0) (hk2 : k < 256) (hp : p.length ≤ 2097152) (hl : Lt p) {a y : Nat} (ha : a < (fr k p).length) (hy : y < 256) (hne : y ≠ (fr k p)[a]?.getD 0) :
    (nx ((fr k p).set a y) ((0 : Nat) : Int)).2.2.2 ≠ 0 ∨ (nx ((fr k p).set a y) ((0 : Nat) : Int)).2.2.1 ≠ (fr k p).length := by
  by_cases he : (nx ((fr k p).set a y) ((0 : Nat) : Int)).2.2.2 = 0
  · right
    intro hnext
    obtain ⟨h1, h2, h3, n, q, hr, hn, hq, hs, hx⟩ := nx_inv he
    rw [hx] at hnext
    simp only at hnext
    obtain ⟨E, hE⟩ : ∃ E, E = q + n := ⟨_, rfl⟩
    rw [← hE] at hs hnext
    have hbl := body_len k p
    have hfl := fr_len k p
    have hEb : E = (body k p).length + 1 := by rw [hbl]; omega
    have hF : fr k p = (247 :: body k p) ++ le4 (ck (body k p)) := by simp [fr]
    have hFd : (fr k p).drop E = le4 (ck (body k p)) := by rw [hF, hEb, show (body k p).length + 1 = (247 :: body k p).length by simp, List.drop_left]
    have hFt : ((fr k p).take E).drop (0 + 1) = body k p := by rw [hF, hEb, show (body k p).length + 1 = (247 :: body k p).length by simp, List.take_left]; rfl
    by_cases ha0 : a = 0
    · subst ha0
      have h0 : ((fr k p).set 0 y)[0]?.getD 0 = y := by rw [List.getElem?_set_self ha]; rfl
      rw [h0] at h2
      apply hne
      rw [h2]; rfl
    · by_cases haE : a < E
      · have hd : ((fr k p).set a y).drop E = (fr k p).drop E := by rw [List.drop_set_of_lt haE]
        have ht : (((fr k p).set a y).take E).drop (0 + 1) = (body k p).set (a - 1) y := by
          rw [List.take_set, List.drop_set, if_neg (by omega), hFt]
        rw [hd, ht, hFd, List.take_of_length_le (by rw [le4_len]; omega)] at hs
        have hck := le4_inj (ck_lt _) (ck_lt _) hs
        have := ck_set (l := body k p) (j := a - 1) (y := y) (by omega) hy (body_lt hk2 hl) hck.symm
        apply hne
        rw [this, ← hFt, List.getElem?_drop, List.getElem?_take, if_pos (by omega), show 0 + 1 + (a - 1) = a by omega]
      · have ht : ((fr k p).set a y).take E = (fr k p).take E := by rw [List.take_set_of_le (by omega)]
        have hd : ((fr k p).set a y).drop E = (le4 (ck (body k p))).set (a - E) y := by rw [List.drop_set, if_neg (by omega), hFd]
        rw [ht, hFt, hd, List.take_of_length_le (by rw [List.length_set, le4_len]; omega)] at hs
        have h6 : ((le4 (ck (body k p))).set (a - E) y)[a - E]?.getD 0 = y := by
          rw [List.getElem?_set_self (by rw [le4_len]; omega)]; rfl
        rw [hs, ← hFd, List.getElem?_drop, show E + (a - E) = a by omega] at h6
        exact hne h6.symm
  · exact .inl he

/-- Frames one after the other, from a place to a place. -/
def Chain (l : List Nat) : Nat → List (Nat × List Nat) → Nat → Prop
  | p, [], q => p = q
  | p, x :: r, q => p < l.length ∧ (nx l (p : Nat)).2.2.2 = 0 ∧ x = ((nx l (p : Nat)).1, (nx l (p : Nat)).2.1) ∧ Chain l (nx l (p : Nat)).2.2.1 r q
/-- Where the frames end, and with which error. -/
def Stops (l : List Nat) (q e : Nat) : Prop := (l.length ≤ q ∧ e = 0) ∨ (q < l.length ∧ e ≠ 0 ∧ (nx l (q : Nat)).2.2.2 = e)
theorem Chain.snoc {l : List Nat} : ∀ {r : List (Nat × List Nat)} {p q : Nat}, Chain l p r q → q < l.length → (nx l (q : Nat)).2.2.2 = 0 → Chain l p (r ++ [((nx l (q : Nat)).1, (nx l (q : Nat)).2.1)]) (nx l (q : Nat)).2.2.1
  | [], p, q, h, h1, h2 => by
    have h : p = q := h
    subst h
    exact ⟨h1, h2, rfl, rfl⟩
  | x :: r, p, q, h, h1, h2 => ⟨h.1, h.2.1, h.2.2.1, h.2.2.2.snoc h1 h2⟩
theorem Chain.unique {l : List Nat} : ∀ {r r' : List (Nat × List Nat)} {p q q' e e' : Nat}, Chain l p r q → Stops l q e → Chain l p r' q' → Stops l q' e' → r = r' ∧ q = q' ∧ e = e'
  | [], [], p, q, q', e, e', h, hs, h', hs' => by
    have h : p = q := h
    have h' : p = q' := h'
    subst h h'
    refine ⟨rfl, rfl, ?_⟩
    rcases hs with ⟨a, b⟩ | ⟨a, b, c⟩ <;> rcases hs' with ⟨a', b'⟩ | ⟨a', b', c'⟩ <;> omega
  | [], x :: r, p, q, q', e, e', h, hs, h', hs' => by
    have h : p = q := h
    subst h
    obtain ⟨h1, h2, -⟩ := h'
    rcases hs with ⟨a, b⟩ | ⟨a, b, c⟩ <;> omega
  | x :: r, [], p, q, q', e, e', h, hs, h', hs' => by
    have h' : p = q' := h'
    subst h'
    obtain ⟨h1, h2, -⟩ := h
    rcases hs' with ⟨a, b⟩ | ⟨a, b, c⟩ <;> omega
  | x :: r, x' :: r', p, q, q', e, e', h, hs, h', hs' => by
    obtain ⟨h1, h2, h3, h4⟩ := h
    obtain ⟨h1', h2', h3', h4'⟩ := h'
    obtain ⟨a, b, c⟩ := h4.unique hs h4' hs'
    exact ⟨by rw [h3, h3', a], b, c⟩
/-- Copies of a frame, one after the other. -/
theorem Chain.copies {k : Nat} {p : List Nat} (hk : k ≠ 0) (hp : p.length ≤ 2097152) (m : List Nat) : ∀ (n : Nat) (a : List Nat), Chain (a ++ ((List.replicate n (fr k p)).flatten ++ m)) a.length (List.replicate n (k, p)) (a.length + n * (fr k p).length)
  | 0, a => by simp [Chain]
  | n + 1, a => by
    have hl : a ++ ((List.replicate (n + 1) (fr k p)).flatten ++ m) = a ++ (fr k p ++ ((List.replicate n (fr k p)).flatten ++ m)) := by simp [List.replicate_succ]
    have hx := nx_back a ((List.replicate n (fr k p)).flatten ++ m) hk hp
    have hlen := fr_len k p
    rw [hl, List.replicate_succ]
    refine ⟨by rw [List.length_append, List.length_append]; omega, by rw [hx], by rw [hx], ?_⟩
    rw [hx]
    have := Chain.copies hk hp m n (a ++ fr k p)
    rw [List.length_append, List.append_assoc] at this
    rw [show a.length + (n + 1) * (fr k p).length = a.length + (fr k p).length + n * (fr k p).length by rw [Nat.succ_mul]; omega]
    exact this
end WireN

/- Plain mathematics of tokens: spans of bytes, the token at a place, the tokens from a place on. No condition. -/
namespace LexN
set_option linter.unusedVariables false
set_option linter.unusedSimpArgs false

def letter (c : Nat) : Bool := decide (97 ≤ c) && decide (c ≤ 122)
def digit (c : Nat) : Bool := decide (48 ≤ c) && decide (c ≤ 57)
def inner (c : Nat) : Bool := letter c || digit c || c == 95
def part' (c : Nat) : Bool := inner c || c == 46
def txt (c : Nat) : Bool := decide (32 ≤ c) && decide (c ≤ 126) && c != 34
def line (c : Nat) : Bool := c != 10
def blank (c : Nat) : Bool := c == 32 || c == 9 || c == 10 || c == 13
def signs : List Nat := [59, 44, 40, 41, 43, 45, 42, 47, 37, 60, 61]
def sgn (c : Nat) : Bool := signs.contains c
/-- The byte at a place. -/
def at' (l : List Nat) (i : Nat) : Nat := l[i]?.getD 0
/-- The place behind the bytes that fit, from a place on. -/
def spn (p : Nat → Bool) (l : List Nat) (i : Nat) : Nat := i + ((l.drop i).takeWhile p).length
def sub (l : List Nat) (i j : Nat) : List Nat := (l.take j).drop i

theorem drop_at {l : List Nat} {i : Nat} (h : i < l.length) : l.drop i = at' l i :: l.drop (i + 1) := by
  rw [List.drop_eq_getElem_cons h]; simp [at', h]
theorem spn_step {p : Nat → Bool} {l : List Nat} {i : Nat} (h : i < l.length) (hp : p (at' l i) = true) : spn p l i = spn p l (i + 1) := by
  unfold spn
  rw [drop_at h, List.takeWhile_cons_of_pos hp, List.length_cons]
  omega
theorem spn_no {p : Nat → Bool} {l : List Nat} {i : Nat} (hp : p (at' l i) = false) (h : i < l.length) : spn p l i = i := by
  unfold spn
  rw [drop_at h, List.takeWhile_cons_of_neg (by simp [hp])]
  rfl
theorem spn_end {p : Nat → Bool} {l : List Nat} {i : Nat} (h : l.length ≤ i) : spn p l i = i := by
  unfold spn
  rw [List.drop_eq_nil_of_le h]; rfl
theorem spn_ge (p : Nat → Bool) (l : List Nat) (i : Nat) : i ≤ spn p l i := by unfold spn; omega
theorem spn_le (p : Nat → Bool) {l : List Nat} {i : Nat} (h : i ≤ l.length) : spn p l i ≤ l.length := by
  unfold spn
  have := (List.takeWhile_prefix p (l := l.drop i)).length_le
  rw [List.length_drop] at this
  omega
theorem spn_gt {p : Nat → Bool} {l : List Nat} {i : Nat} (h : i < l.length) (hp : p (at' l i) = true) : i < spn p l i := by
  rw [spn_step h hp]; exact spn_ge _ _ _
/-- All bytes of a span fit. -/
theorem spn_all (p : Nat → Bool) (l : List Nat) : ∀ (n i : Nat), spn p l i = i + n → ∀ j, i ≤ j → j < i + n → p (at' l j) = true := by
  intro n
  induction n with
  | zero => intro i _ j h1 h2; omega
  | succ n ih =>
    intro i h j h1 h2
    by_cases hl : i < l.length
    · by_cases hp : p (at' l i) = true
      · by_cases hj : j = i
        · subst hj; exact hp
        · exact ih (i + 1) (by rw [← spn_step hl hp]; omega) j (by omega) (by omega)
      · rw [spn_no (by simpa using hp) hl] at h; omega
    · rw [spn_end (by omega)] at h; omega
/-- The byte behind a span doesn't fit. -/
theorem spn_stop (p : Nat → Bool) (l : List Nat) : ∀ (n i : Nat), l.length - i ≤ n → spn p l i < l.length → p (at' l (spn p l i)) = false := by
  intro n
  induction n with
  | zero => intro i h1 h2; have := spn_ge p l i; omega
  | succ n ih =>
    intro i h1 h2
    by_cases hl : i < l.length
    · by_cases hp : p (at' l i) = true
      · rw [spn_step hl hp] at h2 ⊢
        exact ih (i + 1) (by omega) h2
      · have hp : p (at' l i) = false := by simpa using hp
        rw [spn_no hp hl]; exact hp
    · rw [spn_end (by omega)] at h2; omega

abbrev Tok := Nat × List Nat × Nat × Nat
def Tok.zero : Tok := (0, [], 0, 0)
def digits (ds : List Nat) : Nat := ds.foldl (fun v c => 10 * v + (c - 48)) 0
/-- The token at a place: the token, the place behind it, the error. -/
def tok (l : List Nat) (i : Nat) : Tok × Nat × Nat :=
  if letter (at' l i) = true then
    if 24 < spn inner l i - i then (Tok.zero, 0, 2) else ((1, sub l i (spn inner l i), 0, i), spn inner l i, 0)
  else if digit (at' l i) = true then
    if 9007199254740992 < digits (sub l i (spn digit l i)) then (Tok.zero, 0, 3) else ((2, [], digits (sub l i (spn digit l i)), i), spn digit l i, 0)
  else if at' l i = 34 then
    if spn txt l (i + 1) = l.length ∨ at' l (spn txt l (i + 1)) ≠ 34 then (Tok.zero, 0, 9) else ((3, sub l (i + 1) (spn txt l (i + 1)), 0, i), spn txt l (i + 1) + 1, 0)
  else if at' l i = 61 ∧ i + 1 < l.length ∧ at' l (i + 1) = 61 then ((4, [61, 61], 0, i), i + 2, 0)
  else if sgn (at' l i) = true then ((4, [at' l i], 0, i), i + 1, 0)
  else (Tok.zero, 0, 9)

theorem tok_next {l : List Nat} {i : Nat} (h : i < l.length) (he : (tok l i).2.2 = 0) : i < (tok l i).2.1 ∧ (tok l i).2.1 ≤ l.length := by
  unfold tok at *
  by_cases h1 : letter (at' l i) = true
  · rw [if_pos h1] at *
    by_cases h2 : 24 < spn inner l i - i
    · rw [if_pos h2] at he; simp at he
    · rw [if_neg h2]
      exact ⟨spn_gt h (by simp [inner, h1]), spn_le _ (by omega)⟩
  · rw [if_neg h1] at *
    by_cases h2 : digit (at' l i) = true
    · rw [if_pos h2] at *
      by_cases h3 : 9007199254740992 < digits (sub l i (spn digit l i))
      · rw [if_pos h3] at he; simp at he
      · rw [if_neg h3]
        exact ⟨spn_gt h h2, spn_le _ (by omega)⟩
    · rw [if_neg h2] at *
      by_cases h3 : at' l i = 34
      · rw [if_pos h3] at *
        by_cases h4 : spn txt l (i + 1) = l.length ∨ at' l (spn txt l (i + 1)) ≠ 34
        · rw [if_pos h4] at he; simp at he
        · rw [if_neg h4]
          have h5 := spn_ge txt l (i + 1)
          have h6 := spn_le txt (l := l) (i := i + 1) (by omega)
          have h7 : spn txt l (i + 1) ≠ l.length := fun e => h4 (.inl e)
          refine ⟨?_, ?_⟩ <;> simp only <;> omega
      · rw [if_neg h3] at *
        by_cases h4 : at' l i = 61 ∧ i + 1 < l.length ∧ at' l (i + 1) = 61
        · rw [if_pos h4]
          refine ⟨?_, ?_⟩ <;> simp only <;> omega
        · rw [if_neg h4] at *
          by_cases h5 : sgn (at' l i) = true
          · rw [if_pos h5]
            refine ⟨?_, ?_⟩ <;> simp only <;> omega
          · rw [if_neg h5] at he; simp at he

abbrev Ans := List Tok × Nat × Nat
/-- Tokens aheadL of an answer. -/
def aheadL (ts : List Tok) (r : Ans) : Ans := if r.2.2 = 0 then (ts ++ r.1, r.2) else r
theorem aheadL_nil (r : Ans) : aheadL [] r = r := by unfold aheadL; split <;> rfl
theorem aheadL_aheadL (a b : List Tok) (r : Ans) : aheadL a (aheadL b r) = aheadL (a ++ b) r := by
  unfold aheadL
  by_cases h : r.2.2 = 0 <;> simp [h]
/-- The tokens from a place on. -/
def lexF (l : List Nat) : Nat → Nat → Ans
  | 0, i => ([], i, 9)
  | n + 1, i =>
    if l.length ≤ i then ([(5, [], 0, l.length)], 0, 0)
    else if blank (at' l i) = true then lexF l n (i + 1)
    else if at' l i = 35 then lexF l n (spn line l i)
    else if (tok l i).2.2 = 0 then aheadL [(tok l i).1] (lexF l n (tok l i).2.1) else ([], i, (tok l i).2.2)
theorem spn_line {l : List Nat} {i : Nat} (h : i < l.length) (h35 : at' l i = 35) : i < spn line l i ∧ spn line l i ≤ l.length :=
  ⟨spn_gt h (by simp [line, h35]), spn_le _ (by omega)⟩
theorem lexF_more (l : List Nat) : ∀ (n m i : Nat), l.length - i < n → l.length - i < m → lexF l n i = lexF l m i := by
  intro n
  induction n with
  | zero => intro m i h; omega
  | succ n ih =>
    intro m i h1 h2
    obtain ⟨m, rfl⟩ : ∃ k, m = k + 1 := ⟨m - 1, by omega⟩
    unfold lexF
    by_cases hl : l.length ≤ i
    · rw [if_pos hl, if_pos hl]
    · rw [if_neg hl, if_neg hl]
      by_cases hb : blank (at' l i) = true
      · rw [if_pos hb, if_pos hb]; exact ih _ _ (by omega) (by omega)
      · rw [if_neg hb, if_neg hb]
        by_cases hc : at' l i = 35
        · rw [if_pos hc, if_pos hc]
          have := spn_line (by omega) hc
          exact ih _ _ (by omega) (by omega)
        · rw [if_neg hc, if_neg hc]
          by_cases he : (tok l i).2.2 = 0
          · rw [if_pos he, if_pos he]
            have := tok_next (by omega) he
            rw [ih m (tok l i).2.1 (by omega) (by omega)]
          · rw [if_neg he, if_neg he]
def lex (l : List Nat) (i : Nat) : Ans := lexF l (l.length + 1 - i) i
theorem lex_fuel {l : List Nat} {n i : Nat} (h : l.length - i < n) (hi : i ≤ l.length) : lexF l n i = lex l i := lexF_more _ _ _ _ h (by omega)
theorem lex_end {l : List Nat} {i : Nat} (h : i = l.length) : lex l i = ([(5, [], 0, l.length)], 0, 0) := by
  subst h
  unfold lex
  rw [show l.length + 1 - l.length = 0 + 1 by omega]
  unfold lexF
  rw [if_pos (Nat.le_refl _)]
theorem lex_blank {l : List Nat} {i : Nat} (h : i < l.length) (hb : blank (at' l i) = true) : lex l i = lex l (i + 1) := by
  unfold lex
  rw [show l.length + 1 - i = (l.length - i) + 1 by omega, lexF, if_neg (by omega), if_pos hb]
  exact lexF_more _ _ _ _ (by omega) (by omega)
theorem lex_comment {l : List Nat} {i : Nat} (h : i < l.length) (hc : at' l i = 35) : lex l i = lex l (spn line l i) := by
  have := spn_line h hc
  unfold lex
  rw [show l.length + 1 - i = (l.length - i) + 1 by omega, lexF, if_neg (by omega), if_neg (by rw [hc]; decide), if_pos hc]
  exact lexF_more _ _ _ _ (by omega) (by omega)
theorem lex_tok {l : List Nat} {i : Nat} (h : i < l.length) (hb : blank (at' l i) = false) (hc : at' l i ≠ 35) (he : (tok l i).2.2 = 0) : lex l i = aheadL [(tok l i).1] (lex l (tok l i).2.1) := by
  have := tok_next h he
  unfold lex
  rw [show l.length + 1 - i = (l.length - i) + 1 by omega, lexF, if_neg (by omega), if_neg (by simp [hb]), if_neg hc, if_pos he]
  rw [lexF_more l (l.length - i) (l.length + 1 - (tok l i).2.1) _ (by omega) (by omega)]
theorem lex_err {l : List Nat} {i : Nat} (h : i < l.length) (hb : blank (at' l i) = false) (hc : at' l i ≠ 35) (he : (tok l i).2.2 ≠ 0) : lex l i = ([], i, (tok l i).2.2) := by
  unfold lex
  rw [show l.length + 1 - i = (l.length - i) + 1 by omega, lexF, if_neg (by omega), if_neg (by simp [hb]), if_neg hc, if_neg he]

/-- What Tokens answers. -/
def toks (l : List Nat) : Ans := if 16384 < l.length then ([], 0, 2) else lex l 0
theorem digits_snoc (ds : List Nat) (c : Nat) : digits (ds ++ [c]) = 10 * digits ds + (c - 48) := by
  unfold digits; rw [List.foldl_append]; rfl
theorem digits_mono (ds es : List Nat) : digits ds ≤ digits (ds ++ es) := by
  induction es generalizing ds with
  | nil => simp
  | cons e es ih =>
    have := ih (ds ++ [e])
    rw [digits_snoc] at this
    rw [show ds ++ e :: es = ds ++ [e] ++ es by simp]
    omega
theorem sub_snoc {l : List Nat} {i j : Nat} (hij : i ≤ j) (hj : j < l.length) : sub l i (j + 1) = sub l i j ++ [at' l j] := by
  unfold sub
  rw [List.take_succ_eq_append_getElem hj, List.drop_append_of_le_length (by rw [List.length_take]; omega)]
  simp [at', hj]
theorem sub_self (l : List Nat) (i : Nat) : sub l i i = [] := by
  unfold sub
  rw [List.drop_eq_nil_of_le (by rw [List.length_take]; omega)]
theorem sub_len {l : List Nat} {i j : Nat} (hj : j ≤ l.length) : (sub l i j).length = j - i := by
  unfold sub; rw [List.length_drop, List.length_take]; omega
theorem sub_at {l : List Nat} {i j k : Nat} (hj : j ≤ l.length) (hk : k < j - i) : at' (sub l i j) k = at' l (i + k) := by
  unfold sub at'
  rw [List.getElem?_drop, List.getElem?_take, if_pos (by omega)]
theorem sub_one {l : List Nat} {i : Nat} (h : i < l.length) : sub l i (i + 1) = [at' l i] := by
  rw [sub_snoc (Nat.le_refl _) h, sub_self]; rfl
end LexN

/- Plain mathematics of names and paths: the parts of a path, and the count over its bytes. No condition. -/
namespace LexN
open Go
set_option linter.unusedVariables false
set_option linter.unusedSimpArgs false

/-- 1 to 24 bytes that all fit. -/
def cons (p : Nat → Bool) (l : List Nat) : Bool := decide (1 ≤ l.length) && (decide (l.length ≤ 24) && (spn p l 0 == l.length))
def nameB (l : List Nat) : Bool := cons inner l && letter (at' l 0)
def parts : List Nat → List (List Nat)
  | [] => [[]]
  | c :: l => if c = 47 then [] :: parts l else match parts l with | p :: ps => (c :: p) :: ps | [] => [[c]]
theorem parts_ne : ∀ l : List Nat, parts l ≠ []
  | [] => by simp [parts]
  | c :: l => by
    unfold parts
    by_cases h : c = 47
    · rw [if_pos h]; simp
    · rw [if_neg h]; split <;> simp
def pathB (l : List Nat) : Bool := decide (l.length ≤ 80) && (decide ((parts l).length ≤ 8) && (parts l).all (cons part'))
theorem parts_len : ∀ l : List Nat, (parts l).length ≤ l.length + 1
  | [] => by simp [parts]
  | c :: l => by
    have := parts_len l
    unfold parts
    by_cases h : c = 47
    · rw [if_pos h]; simp only [List.length_cons]; omega
    · rw [if_neg h]
      split
      · rename_i p ps he
        rw [he] at this
        simp only [List.length_cons] at this ⊢; omega
      · simp
theorem parts_sub : ∀ (l : List Nat) (p : List Nat), p ∈ parts l → p.length ≤ l.length ∧ ∀ x ∈ p, x ∈ l
  | [], p, h => by
    simp only [parts, List.mem_singleton] at h
    subst h; simp
  | c :: l, p, h => by
    unfold parts at h
    by_cases h1 : c = 47
    · rw [if_pos h1] at h
      rcases List.mem_cons.1 h with rfl | h
      · simp
      · have := parts_sub l p h
        exact ⟨by simp; omega, fun x hx => List.mem_cons_of_mem _ (this.2 x hx)⟩
    · rw [if_neg h1] at h
      split at h
      · rename_i q qs he
        rcases List.mem_cons.1 h with rfl | h
        · have := parts_sub l q (by rw [he]; exact List.mem_cons_self)
          refine ⟨by simp; omega, fun x hx => ?_⟩
          rcases List.mem_cons.1 hx with rfl | hx
          · exact List.mem_cons_self
          · exact List.mem_cons_of_mem _ (this.2 x hx)
        · have := parts_sub l p (by rw [he]; exact List.mem_cons_of_mem _ h)
          exact ⟨by simp; omega, fun x hx => List.mem_cons_of_mem _ (this.2 x hx)⟩
      · simp only [List.mem_singleton] at h
        subst h; simp
theorem spn_whole (p : Nat → Bool) (l : List Nat) : (spn p l 0 == l.length) = l.all p := by
  unfold spn
  rw [List.drop_zero, Nat.zero_add]
  induction l with
  | nil => rfl
  | cons c l ih =>
    by_cases h : p c = true
    · rw [List.takeWhile_cons_of_pos h]
      simp only [List.length_cons, List.all_cons, h, Bool.true_and, ← ih]
      simp
    · rw [List.takeWhile_cons_of_neg h]
      simp [h]
theorem cons_eq (p : Nat → Bool) (l : List Nat) : cons p l = (decide (1 ≤ l.length) && (decide (l.length ≤ 24) && l.all p)) := by unfold cons; rw [spn_whole]
/-- The count over the bytes: parts so far, bytes of the present one. -/
def scan : List Nat → Nat → Nat → Bool
  | [], p, k => decide (0 < k) && decide (p ≤ 8)
  | c :: r, p, k => if c = 47 then (if k = 0 then false else scan r (p + 1) 0) else if part' c = true then (if 24 < k + 1 then false else scan r p (k + 1)) else false
def restB (p k : Nat) : List (List Nat) → Bool
  | [] => false
  | q :: qs => decide (1 ≤ k + q.length) && (decide (k + q.length ≤ 24) && q.all part') && (decide (p + qs.length ≤ 8) && qs.all (cons part'))
theorem scan_eq : ∀ (l : List Nat) (p k : Nat), k ≤ 24 → scan l p k = restB p k (parts l)
  | [], p, k, hk => by
    simp only [scan, parts, restB]
    by_cases h : 0 < k <;> simp [h, hk] <;> omega
  | c :: l, p, k, hk => by
    unfold scan parts
    by_cases h : c = 47
    · rw [if_pos h, if_pos h]
      by_cases h0 : k = 0
      · rw [if_pos h0]; simp [restB, h0]
      · rw [if_neg h0, scan_eq l (p + 1) 0 (by omega)]
        have hk1 : 1 ≤ k := by omega
        obtain ⟨q, qs, he⟩ : ∃ q qs, parts l = q :: qs := by
          match hp : parts l with
          | [] => exact absurd hp (parts_ne l)
          | q :: qs => exact ⟨q, qs, rfl⟩
        rw [he, Bool.eq_iff_iff]
        obtain ⟨A, hA⟩ : ∃ A, A = q.all part' := ⟨_, rfl⟩
        obtain ⟨B, hB⟩ : ∃ B, B = qs.all (cons part') := ⟨_, rfl⟩
        obtain ⟨x, hx⟩ : ∃ x, x = q.length := ⟨_, rfl⟩
        obtain ⟨y, hy⟩ : ∃ y, y = qs.length := ⟨_, rfl⟩
        simp only [restB, List.length_nil, List.all_nil, List.all_cons, List.length_cons, cons_eq part' q, ← hA, ← hB, ← hx, ← hy, Bool.and_eq_true, decide_eq_true_eq]
        constructor
        · rintro ⟨⟨h1, h2, h3⟩, h4, h5⟩
          exact ⟨⟨by omega, by omega, trivial⟩, by omega, ⟨by omega, by omega, h3⟩, h5⟩
        · rintro ⟨-, h4, ⟨h1, h2, h3⟩, h5⟩
          exact ⟨⟨by omega, by omega, h3⟩, by omega, h5⟩
    · rw [if_neg h, if_neg h]
      obtain ⟨q, qs, he⟩ : ∃ q qs, parts l = q :: qs := by
        match hp : parts l with
        | [] => exact absurd hp (parts_ne l)
        | q :: qs => exact ⟨q, qs, rfl⟩
      rw [he]
      simp only
      by_cases hp : part' c = true
      · rw [if_pos hp]
        by_cases h24 : 24 < k + 1
        · rw [if_pos h24]
          have : decide (k + (c :: q).length ≤ 24) = false := by simp; omega
          simp [restB, this]
          intro _ h; omega
        · rw [if_neg h24, scan_eq l p (k + 1) (by omega), he]
          rw [Bool.eq_iff_iff]
          obtain ⟨A, hA⟩ : ∃ A, A = q.all part' := ⟨_, rfl⟩
          obtain ⟨B, hB⟩ : ∃ B, B = qs.all (cons part') := ⟨_, rfl⟩
          obtain ⟨x, hx⟩ : ∃ x, x = q.length := ⟨_, rfl⟩
          simp only [restB, List.length_cons, List.all_cons, hp, ← hA, ← hB, ← hx, Bool.and_eq_true, decide_eq_true_eq]
          constructor
          · rintro ⟨⟨h1, h2, h3⟩, h4, h5⟩
            exact ⟨⟨by omega, by omega, trivial, h3⟩, h4, h5⟩
          · rintro ⟨⟨h1, h2, -, h3⟩, h4, h5⟩
            exact ⟨⟨by omega, by omega, h3⟩, h4, h5⟩
      · rw [if_neg hp]
        simp [restB, hp]
theorem pathB_scan (l : List Nat) : pathB l = (decide (l.length ≤ 80) && scan l 1 0) := by
  unfold pathB
  rw [scan_eq l 1 0 (by omega)]
  obtain ⟨q, qs, he⟩ : ∃ q qs, parts l = q :: qs := by
    match hp : parts l with
    | [] => exact absurd hp (parts_ne l)
    | q :: qs => exact ⟨q, qs, rfl⟩
  rw [he]
  simp only [restB, List.all_cons, List.length_cons, Nat.zero_add, cons_eq]
  rw [show 1 + qs.length = qs.length + 1 by omega]
  cases decide (l.length ≤ 80) <;> cases decide (qs.length + 1 ≤ 8) <;> cases decide (1 ≤ q.length) <;> cases decide (q.length ≤ 24) <;> cases q.all part' <;> simp
/-- The library's split at a slash. -/
theorem split_parts : ∀ (l : List Nat), (∀ x ∈ l, x < 256) → Lib.split (l.map fun n => UInt8.ofNat n) [47] = (parts l).map fun p => p.map fun n => UInt8.ofNat n
  | [], _ => by
    rfl
  | c :: l, hl => by
    have ih := split_parts l (fun x hx => hl x (List.mem_cons_of_mem _ hx))
    have hc := hl c List.mem_cons_self
    obtain ⟨L, hL⟩ : ∃ L, L = l.map fun n => UInt8.ofNat n := ⟨_, rfl⟩
    rw [List.map_cons, ← hL]
    rw [← hL] at ih
    by_cases h : c = 47
    · subst h
      unfold parts
      rw [if_pos rfl]
      show Lib.split (47 :: L) [47] = _
      unfold Lib.split
      rw [Lib.count_cons_eq, Nat.add_comm]
      have hix : Lib.index (47 :: L) [47] = 0 := by rw [Lib.index]; simp [List.isPrefixOf]
      unfold Lib.splitK
      rw [hix]
      show List.take 0 (47 :: L) :: Lib.splitK [47] 0 (Lib.count L [47]) (List.drop 1 (47 :: L)) = _
      rw [List.take_zero, List.drop_one, List.tail_cons]
      rw [List.map_cons, ← ih]
      rfl
    · obtain ⟨b, hb⟩ : ∃ b, b = UInt8.ofNat c := ⟨_, rfl⟩
      have hb47 : b ≠ 47 := by
        intro e
        rw [hb] at e
        have := congrArg UInt8.toNat e
        simp at this
        omega
      rw [← hb]
      unfold parts
      rw [if_neg h]
      unfold Lib.split at ih ⊢
      rw [Lib.count_cons_ne b 47 L hb47]
      obtain ⟨q, qs, he⟩ : ∃ q qs, parts l = q :: qs := by
        match hp : parts l with
        | [] => exact absurd hp (parts_ne l)
        | q :: qs => exact ⟨q, qs, rfl⟩
      rw [he] at ih ⊢
      simp only
      rw [List.map_cons] at ih ⊢
      rw [List.map_cons, ← hb]
      match hk : Lib.count L [47] with
      | 0 =>
        rw [hk] at ih
        simp only [Lib.splitK, List.cons.injEq] at ih ⊢
        exact ⟨⟨trivial, ih.1⟩, ih.2⟩
      | k + 1 =>
        rw [hk] at ih
        have hm : Lib.index L [47] ≠ -1 := fun e => by rw [Lib.count_miss e] at hk; omega
        have hge := Lib.index_ge L [47]
        obtain ⟨j, hj⟩ : ∃ j : Nat, Lib.index L [47] = j := ⟨(Lib.index L [47]).toNat, by omega⟩
        have hp : ([47] : List UInt8).isPrefixOf (b :: L) = false := by simp [List.isPrefixOf, Ne.symm hb47]
        have hix : Lib.index (b :: L) [47] = ((j + 1 : Nat) : Int) := by
          rw [Lib.index, hp]
          simp only [Bool.false_eq_true, if_false]
          rw [if_neg (fun e => hm (beq_iff_eq.1 e)), hj]
          omega
        have hn1 : ¬ (Lib.index L [47] == -1) = true := fun e => hm (beq_iff_eq.1 e)
        have hn2 : ¬ (Lib.index (b :: L) [47] == -1) = true := fun e => by have := beq_iff_eq.1 e; omega
        unfold Lib.splitK at ih ⊢
        rw [if_neg hn1, hj] at ih
        rw [if_neg hn2, hix]
        simp only [Int.toNat_natCast, Nat.add_zero, List.length_singleton, List.cons.injEq] at ih ⊢
        refine ⟨by rw [List.take_succ_cons, ih.1], ?_⟩
        rw [show j + 1 + 1 = (j + 1) + 1 by omega, List.drop_succ_cons]
        exact ih.2
end LexN

/- Strings as lists of bytes: index, length, parts, the way to bytes and back. Conditions: the places lie in the string. -/
namespace Go.Proofs.YtfobogcccbddbaaGreatDoor
namespace By
open Go.RowKit WireN LexN
set_option linter.unusedVariables false
set_option linter.unusedSimpArgs false

theorem idx {l : List Nat} (hl : Lt l) {i : Nat} (h : i < l.length) (w : World) : (Instr.index 9 (.string (st l)) (.int .i64 (i : Int))).run Tryz.prog w = .ok (.int .u8 (at' l i : Nat)) w := by
  have hrs : i < (st l).size := by rw [st_size]; exact h
  have h1 : i < (st l).data.toList.length := hrs
  rw [run_index_string w 9 (st l) .i64 i Tryz.underlying9, dif_pos (by omega)]
  have e := bs_get (st l) i hrs
  rw [bs_st hl, List.getD_eq_getElem?_getD, List.getElem?_eq_getElem h1] at e
  unfold at'
  rw [← e]
  rfl
theorem len {l : List Nat} (w : World) : (Builtin.len_ #[9] 3 #[.string (st l)]).run Tryz.prog w = .ok (goInt l.length) w := by
  rw [run_len_string w _ _ (st l) Tryz.underlying9, st_size]
theorem st_sub {l : List Nat} {i j : Nat} : (st l).extract i j = st (sub l i j) := by
  unfold st sub
  apply ByteArray.ext
  apply Array.ext'
  simp [List.map_drop, List.map_take, ByteArray.data_extract, List.drop_take]
/-- s[i:j] -/
theorem cut {l : List Nat} {i j : Nat} (hij : i ≤ j) (hj : j ≤ l.length) (w : World) : (Instr.slice 9 (.string (st l)) (some (.int .i64 (i : Int))) (some (.int .i64 (j : Int))) none).run Tryz.prog w = .ok (.string (st (sub l i j))) w := by
  rw [run_slice_string w 9 (st l) .i64 .i64 i j Tryz.underlying9 (by omega) (by omega) (by rw [st_size]; omega), Int.toNat_natCast, Int.toNat_natCast, st_sub]
/-- s[i:] -/
theorem cut_from {l : List Nat} {i : Nat} (hi : i ≤ l.length) (w : World) : (Instr.slice 9 (.string (st l)) (some (.int .i64 (i : Int))) none none).run Tryz.prog w = .ok (.string (st (l.drop i))) w := by
  rw [run_slice_string_l w 9 (st l) Tryz.underlying9 .i64 i (by omega) (by rw [st_size]; omega), Int.toNat_natCast, st_sub, st_size]
  unfold sub
  rw [List.take_of_length_le (Nat.le_refl _)]
/-- s[:j] -/
theorem cut_to {l : List Nat} {j : Nat} (hj : j ≤ l.length) (w : World) : (Instr.slice 9 (.string (st l)) none (some (.int .i64 (j : Int))) none).run Tryz.prog w = .ok (.string (st (l.take j))) w := by
  rw [run_slice_string_h w 9 (st l) Tryz.underlying9 .i64 j (by omega) (by rw [st_size]; omega), Int.toNat_natCast, st_sub]
  rfl
end By
end Go.Proofs.YtfobogcccbddbaaGreatDoor
