/- The reference's Encode. Condition: texts of at most 600 bytes. -/
import Derived.Test.YtlfoikjbbbhbdaaMCj
import Derived.Test.YtlfoikjbbbhbdaaWRFrame
namespace Go.Proofs.Ytlfoikjbbbhbdaa
namespace By
open Go.RowKit WireN CtN
set_option linter.unusedVariables false
set_option linter.unusedSimpArgs false

/-- The bytes of a store. -/
def encT (ts : List Tx) : List Nat := (ts.map (fr 3)).flatten
theorem encT_snoc (ts : List Tx) (x : Tx) : encT (ts ++ [x]) = encT ts ++ fr 3 x := by simp [encT]
theorem encT_len : ∀ {ts : List Tx}, (∀ x ∈ ts, x.length ≤ 600) → (encT ts).length ≤ 620 * ts.length
  | [], _ => by simp [encT]
  | x :: ts, h => by
    have h1 := encT_len (ts := ts) (fun y hy => h y (List.mem_cons_of_mem _ hy))
    have h2 := h x List.mem_cons_self
    have h3 := fr_len 3 x
    have h4 := uv_ten (n := x.length) (by omega)
    show (fr 3 x ++ encT ts).length ≤ _
    rw [List.length_append, List.length_cons]
    omega
def enB (ts : List Tx) : List Nat := if err ts = 0 then encT ts else []
/-- What Encode leaves. -/
def EncR (ts : List Tx) (w : World) (e : Ending) (w' : World) : Prop :=
  ∃ u, e = .returned (.tuple #[u, .int .i64 (err ts : Nat)]) ∧ Sl w' u (enB ts) ∧ New w.heap.size u ∧ Kp w w'
theorem sl_nil (w : World) : Sl w (.slice none 0 0) [] := (Own.start w).sl (by simp)
theorem new_nil (w : World) (b : Nat) : New b (.slice none 0 0) := by
  exact fun a l c h => by simp at h
set_option maxRecDepth 100000 in
set_option maxHeartbeats 8000000 in
theorem rEncT_any {w : World} {v : Value} {ts : List Tx} (hs : Tw w v ts) (hsm : ∀ x ∈ ts, x.length ≤ 600) :
    Calls Try.prog 26 #[.agg #[v]] w (EncR ts w) := by
  obtain ⟨Q, hQ⟩ : ∃ Q, Q = EncR ts w := ⟨_, rfl⟩
  rw [← hQ]
  have FIN : Hid (∀ (W' : World) (u : Value) (E : Nat), E = err ts → Sl W' u (enB ts) → New w.heap.size u → Kp w W' → Q (.returned (.tuple #[u, .int .i64 (E : Nat)])) W') := Lib.hid (fun W' u E h1 h2 h3 h4 => by rw [hQ]; exact ⟨u, by rw [h1], h2, h3, h4⟩)
  obtain ⟨W, hW⟩ : ∃ W, W = w.alloc (.cells #[v] 25) := ⟨_, rfl⟩
  have hk0 : Kp w W := by rw [hW]; exact kp_alloc _ _
  have b1 : Blk W w.heap.size 25 #[v] := by rw [hW]; exact Blk.new _ _ _
  have HC := Lib.hid (rCheckT_any (hs.keep hk0))
  have HW := Lib.hid hW; have HK := Lib.hid hk0; have HB1 := Lib.hid b1; have HS := Lib.hid hs; have HSM := Lib.hid hsm
  have c0 := b1.cell 0 rfl
  obtain ⟨E, hE⟩ : ∃ E, E = err ts := ⟨_, rfl⟩
  have HE := Lib.hid hE
  rw [← hE] at HC
  obtain ⟨ao, ac, rfl, hac, -, -⟩ := hs.open3
  obtain ⟨n, hn⟩ : ∃ n, n = ts.length := ⟨_, rfl⟩
  rw [← hn] at HW HB1 HS HC c0 hac ⊢
  have HN := Lib.hid hn
  have i1 : (n : Int) ≤ (ac : Int) := by omega
  clear hs hk0 b1 hW hE hac hn hQ hsm
  by_cases he : E = 0
  · have q1 : ((E : Int) != 0) = false := by simp [he]
    have HZ : Hid (err ts = 0) := Lib.hid (HE.out ▸ he)
    clear he
    have hn4 : n ≤ 4096 := by have := (err_ok.1 HZ.out).1; have := HN.out; omega
    have i3 : (n : Int) ≤ 4096 := by omega
    go_enter Try.func26, Try.ntmps26
    go_wp2_with fail
    rw [← HW.out]
    refine HC.out.mono ?_
    rintro e w1 ⟨rfl, hk1⟩
    have HK1 := Lib.hid hk1
    have c1 := (HB1.out.keep hk1).cell 0 rfl
    clear hk1 c0
    go_wp2_with fail
    go_loopw [5, 18] (fun o i wr => ∃ (k : Nat) (u : Value), i = .int .i64 (k : Nat) ∧ o = u ∧ k ≤ n ∧ Own w1 wr u (encT (ts.take k))) (fun _ i _ => n - (intOf i).toNat)
    case atStart => exact ⟨0, _, rfl, rfl, Nat.zero_le _, Own.start w1⟩
    case round =>
      obtain ⟨k, u, rfl, rfl, hk, ho⟩ := hrel
      rename World => wr
      have HO := Lib.hid ho
      obtain ⟨ua, uc, hue, -, -⟩ := ho.form
      obtain ⟨ul, hul⟩ : ∃ ul, ul = (encT (ts.take k)).length := ⟨_, rfl⟩
      rw [← hul] at hue
      subst hue
      by_cases hlt : k < n
      · obtain ⟨t, ht⟩ : ∃ t, ts[k]? = some t := ⟨_, List.getElem?_eq_getElem (by have := HN.out; omega)⟩
        have hmem := List.mem_of_getElem? ht
        have hto : TxOk t := HS.out.ok t hmem
        have htl := HSM.out t hmem
        have hkw : Kp w wr := (HK.out.trans HK1.out).trans ho.kp
        obtain ⟨bb, bf, rfl, hcell⟩ := (HS.out.keep hkw).cell (by omega)
        have d0 := hcell k t ht
        have j1 : (k : Int) < (n : Int) := by omega
        have HST : Hid (encT (ts.take (k + 1)) = encT (ts.take k) ++ fr 3 t) := Lib.hid (by rw [List.take_add_one, ht]; exact encT_snoc _ _)
        have HSU : Hid ((encT (ts.take k)).length + (fr 3 t).length ≤ 140737488355328) := Lib.hid (by
          have h1 := encT_len (ts := ts.take k) (fun x hx => HSM.out x (List.mem_of_mem_take hx))
          rw [List.length_take] at h1
          have h3 := fr_len 3 t
          have h4 := uv_ten (n := t.length) (by omega)
          omega)
        obtain ⟨S, hS⟩ : ∃ S, S = st t := ⟨_, rfl⟩
        have hsz : S.size = t.length := by rw [hS, st_size]
        have hbs : bs S = t := by rw [hS, bs_st hto.1]
        have qc : ∀ w, (convert 9 48 (.string S)).run Try.prog w = .ok (.slice (some ⟨w.heap.size, 0, none⟩) S.size (grownCap w S.size 0 5)) (Lib.bytesWorld w 5 S) := fun w =>
          Lib.run_convert_string_bytes w 9 48 5 S Try.underlying9 Try.underlying48 Try.underlying5
        have hsl := sl_bytesWorld wr S (by omega)
        rw [hbs] at hsl
        have HF := Lib.hid (rFrame_ok hsl 3 (by omega) (by omega) (by omega))
        have HO2 := Lib.hid (ho.keep (kp_bytesWorld wr 5 S))
        rw [← hS] at d0
        clear ho ht hmem hto htl hkw hcell hS hsz hbs hsl hk hul
        go_wp2_with fail
        refine HF.out.mono ?_
        rintro e w2 ⟨⟨fv, rfl, hf, -⟩, hk2⟩
        obtain ⟨f1, f3, rfl, -, -, -⟩ := hf.open3
        have HFS := Lib.hid hf
        have HO3 := Lib.hid (HO2.out.keep hk2)
        clear hf hk2 d0
        go_wp2_with (at_builtin; refine wpList_ap (w := w1) rfl (.tmp 32) (.tmp 33) _ rfl Try.underlying48 _ _ _ _ rfl rfl HO3.out HFS.out HSU.out ?_)
        intro v' w3 ho3
        rw [← HST.out] at ho3
        have HX := Lib.hid ho3
        clear ho3
        go_wp2_with fail
        go_roundw
        case rel => exact ⟨k + 1, _, by go_num, rfl, by omega, HX.out⟩
        case measure => simp [intOf]; omega
      · obtain rfl : k = n := by omega
        have htk : ts.take k = ts := List.take_of_length_le (by have := HN.out; omega)
        rw [htk] at HO
        have HSL : Hid ((encT ts).length ≤ 140737488355328) := Lib.hid (by
          have h1 := encT_len (ts := ts) HSM.out
          have := HN.out
          omega)
        clear htk ho hlt hk hul
        go_wp2_with fail
        exact FIN.out _ _ 0 HZ.out.symm (by rw [enB, if_pos HZ.out]; exact HO.out.sl HSL.out) (fun a l c h => by have h1 := HO.out.new HSL.out a l c h; have := HK.out.size; have := HK1.out.size; omega) ((HK.out.trans HK1.out).trans HO.out.kp)
  · have q1 : ((E : Int) != 0) = true := by simp; omega
    have HZ : Hid (err ts ≠ 0) := Lib.hid (HE.out ▸ he)
    clear he
    go_enter Try.func26, Try.ntmps26
    go_wp2_with fail
    rw [← HW.out]
    refine HC.out.mono ?_
    rintro e w1 ⟨rfl, hk1⟩
    have HK1 := Lib.hid hk1
    clear hk1 c0
    go_wp2_with fail
    exact FIN.out _ _ E HE.out (by rw [enB, if_neg HZ.out]; exact sl_nil _) (new_nil w _) (HK.out.trans HK1.out)
end By
end Go.Proofs.Ytlfoikjbbbhbdaa
