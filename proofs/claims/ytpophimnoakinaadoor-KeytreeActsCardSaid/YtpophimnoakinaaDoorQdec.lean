/- The contracts of the program's own Decode and Open of primitive. -/
import Derived.Test.YtpophimnoakinaaDoorQcode
import Derived.Test.YtpophimnoakinaaDoorKdoor
namespace Go.Proofs.YtpophimnoakinaaDoor
open Go.ChangeShapes Go.WideShapes Go.ChangeAt Go.RowKit
set_option linter.unusedVariables false
set_option linter.unusedSimpArgs false

theorem decP_first (t : ByteArray) : decP t = if firstP t = 0 then .tuple #[primZ, .int .i64 0, .int .i64 7] else outP t (firstP t) := by
  unfold decP firstP
  cases (List.range 8).find? (fun i => hitP t (i + 1)) with
  | none => rfl
  | some i => simp
theorem ext_ext (t : ByteArray) (a s : Nat) (h : s ≤ t.size) : (t.extract 0 s).extract a (t.extract 0 s).size = t.extract a s := by
  apply ByteArray.ext
  apply Array.toList_inj.1
  rw [ext_size t 0 s (by omega) h, ext_data, ext_data, ext_data, List.drop_zero, List.take_take]
  congr 2
  omega
theorem rawE_four (t : ByteArray) (c : Nat) (h1 : 1 ≤ c) (h8 : c ≤ 8) (h : sizeN c ≤ t.size) (he : rawE t c ≠ 0) : rawE t c = 4 := by
  obtain ⟨hb, -, hs⟩ := bodyP_size t c h1 h8 h
  have hl : (bodyP t c).data.toList.length = 4 * ((leadN c + rawN c) / 3) := by rw [Array.length_toList]; exact hb
  have hk : (leadN c + rawN c) / 3 ≤ 209 := by rcases eight_codes h1 h8 with rfl | rfl | rfl | rfl | rfl | rfl | rfl | rfl <;> decide
  unfold rawE decFE decE at he ⊢
  rw [hl] at he ⊢
  rw [if_neg (by omega)] at he ⊢
  rw [if_neg (by omega)] at he ⊢
  by_cases ha : allD (bodyP t c).data.toList = true
  · rw [if_pos ha] at he; exact absurd rfl he
  · rw [if_neg ha]
/-- What rawOf returns for the text of a code. -/
def rofS (t : ByteArray) (n : Nat) : ByteArray := if rawE t n ≠ 0 ∨ (rawP t n).extract 0 (leadN n) ≠ (⟨#[0, 0]⟩ : ByteArray).extract 0 (leadN n) then ⟨#[]⟩ else (rawP t n).extract (leadN n) (rawP t n).size
def rofE (t : ByteArray) (n : Nat) : Int := if rawE t n ≠ 0 ∨ (rawP t n).extract 0 (leadN n) ≠ (⟨#[0, 0]⟩ : ByteArray).extract 0 (leadN n) then 4 else 0
theorem outP_rof (t : ByteArray) (n : Nat) : outP t n = if t.size < sizeN n then .tuple #[primZ, .int .i64 0, .int .i64 8] else if rofE t n ≠ 0 then .tuple #[primZ, .int .i64 0, .int .i64 (rofE t n)] else .tuple #[.agg #[.int .i64 n, .string (rofS t n)], .int .i64 (sizeN n), .int .i64 0] := by
  unfold outP rofE rofS
  by_cases h : rawE t n ≠ 0 ∨ (rawP t n).extract 0 (leadN n) ≠ (⟨#[0, 0]⟩ : ByteArray).extract 0 (leadN n)
  · simp only [if_pos h]; rfl
  · simp only [if_neg h]; rfl
theorem yraw_code (t : ByteArray) (n : Nat) (w : World) (h1 : 1 ≤ n) (h8 : n ≤ 8) (h : sizeN n ≤ t.size) (hT : Tab w) :
    Calls Tryd.prog 95 #[.agg #[.string ⟨(codeL n).toArray⟩, .int .i64 (rawN n : Int)], .string (t.extract 0 (sizeN n))] w fun e w' => e = .returned (.tuple #[.string (rofS t n), .int .i64 (rofE t n)]) ∧ Below w.heap.size w w' := by
  obtain ⟨hb, hc, hs⟩ := bodyP_size t n h1 h8 h
  have hk : (leadN n + rawN n) / 3 ≤ 209 := by rcases eight_codes h1 h8 with rfl | rfl | rfl | rfl | rfl | rfl | rfl | rfl <;> decide
  have hz := ext_size t 0 (sizeN n) (by omega) h
  rw [show (Value.tuple #[.string (rofS t n), .int .i64 (rofE t n)]) = (if rawE t n ≠ 0 ∨ (rawP t n).extract 0 (leadN n) ≠ (⟨#[0, 0]⟩ : ByteArray).extract 0 (leadN n) then .tuple #[.string ⟨#[]⟩, .int .i64 4] else .tuple #[.string ((rawP t n).extract (leadN n) (rawP t n).size), .int .i64 0]) by
    unfold rofE rofS
    by_cases h : rawE t n ≠ 0 ∨ (rawP t n).extract 0 (leadN n) ≠ (⟨#[0, 0]⟩ : ByteArray).extract 0 (leadN n)
    · simp only [if_pos h]
    · simp only [if_neg h]]
  refine yraw_of ⟨(codeL n).toArray⟩ (t.extract 0 (sizeN n)) (rawP t n) (rawN n) (leadN n) (rawE t n) w ?_ rfl ?_ ?_ hT ?_ (rawE_four t n h1 h8 h) ?_
  · rcases eight_codes h1 h8 with rfl | rfl | rfl | rfl | rfl | rfl | rfl | rfl <;> decide
  · show (codeL n).length ≤ _; omega
  · omega
  · intro wx hTx
    have hd := decode_full (bodyP t n) wx (by rw [hb]; unfold maxLen; omega) hTx.lt hTx
    rw [ext_ext t _ _ h]
    exact hd
  · intro he
    have := rawP_size t n h1 h8 h he
    omega

theorem three_keepB {w w' : World} {g h B : Nat} {o : Obj} {v x : Value} (hb : Below B w w') (hg : g < B) (hh : h < B) (s : w.heap[g]? = some o ∧ w.cell? ⟨h, 0, none⟩ = some v ∧ w.cell? ⟨h, 1, none⟩ = some x) : w'.heap[g]? = some o ∧ w'.cell? ⟨h, 0, none⟩ = some v ∧ w'.cell? ⟨h, 1, none⟩ = some x :=
  ⟨keepB hb hg s.1, two_keep hb hh s.2⟩

set_option maxHeartbeats 1600000 in
set_option maxRecDepth 100000 in
theorem ydecp_any (t : ByteArray) (w : World) (hr : t.size ≤ maxLen - 2) (hT : Tab w) (hL : Lay w) : Calls Tryd.prog 84 #[.string t] w fun e w' => e = .returned (decP t) ∧ Below w.heap.size w w' := by
  have hr' := hr
  unfold maxLen at hr'
  have b0 := (Below.refl w.heap.size w).alloc (o := .cells #[.int .i64 0, .string ⟨#[]⟩] 69) (Nat.le_refl _)
  have hL0 := hL.go b0
  have hT0 := hT.go b0
  have C := Lib.hid (codeAt_any t _ (by omega) hL0)
  obtain ⟨D, hD⟩ : ∃ D, D = decP t := ⟨_, rfl⟩
  rw [← hD]
  rw [decP_first] at hD
  have hf8 := firstP_le t
  obtain ⟨n, hn⟩ : ∃ n, n = firstP t := ⟨_, rfl⟩
  rw [← hn] at hD C hf8
  clear hn
  have hB0 : (w.alloc (.cells #[.int .i64 0, .string ⟨#[]⟩] 69)).heap[w.heap.size]? = some (.cells #[.int .i64 0, .string ⟨#[]⟩] 69 (0, 0)) := heap_alloc_new _ _
  have HL := Lib.hid hL0
  have HT := Lib.hid hT0
  have g0 : w.heap.size < (w.alloc (.cells #[.int .i64 0, .string ⟨#[]⟩] 69)).heap.size := by simp
  clear hL0 hT0 hL hT hr
  by_cases h0 : n = 0
  · subst h0
    rw [if_pos rfl] at hD
    have HD := Lib.hid hD
    rw [show decide ((0 : Nat) ≠ 0) = false from rfl] at C
    clear hD
    go_enter Tryd.func84, Tryd.ntmps84
    go_wp2_with (go_at_call 93; (with_reducible refine (C.out).mono ?_); rintro e w1 ⟨rfl, hb1⟩; have hB1 := keepB hb1 g0 hB0; have f1 := free_two hB1; have c1 := two_of hB1)
    refine bodyPost_ret (v := .tuple #[primZ, .int .i64 0, .int .i64 7]) ?_ ?_ ?_
    rotate_left
    · rfl
    · exact ⟨by rw [HD.out], ((b0.trans (hb1.mono (by simp))).setCell (Nat.le_refl _) _).setCell (Nat.le_refl _) _⟩
    · have q := two_put hB1 (.int .i64 0) (.string ⟨#[]⟩)
      have q0 := q.1
      have q1 := q.2
      simp [results, Tryd.results84, go_sem, q0, q1, primZ]
  · rw [if_neg h0] at hD
    rw [decide_eq_true h0] at C
    have LN : ∀ wx : World, Lay wx → wx.cell? ⟨1, n * 2, none⟩ = some (.string ⟨(codeL n).toArray⟩) ∧ wx.cell? ⟨1, n * 2 + 1, none⟩ = some (.int .i64 (rawN n : Int)) := fun wx hx => hx n (by omega)
    have Sz : ∀ wx : World, _ := fun wx => ysize_code n wx hf8
    have Rf : sizeN n ≤ t.size → ∀ wx : World, Tab wx → _ := fun h wx hx => yraw_code t n wx (by omega) hf8 h hx
    have hs1000 : sizeN n ≤ 1000 := by rcases eight_codes (c := n) (by omega) hf8 with rfl | rfl | rfl | rfl | rfl | rfl | rfl | rfl <;> decide
    rw [outP_rof] at hD
    obtain ⟨cs, hcs⟩ : ∃ cs : ByteArray, cs = ⟨(codeL n).toArray⟩ := ⟨_, rfl⟩
    obtain ⟨b, hb⟩ : ∃ b, b = rawN n := ⟨_, rfl⟩
    obtain ⟨z, hz⟩ : ∃ z, z = sizeN n := ⟨_, rfl⟩
    obtain ⟨R, hR⟩ : ∃ R, R = rofS t n := ⟨_, rfl⟩
    obtain ⟨E, hE⟩ : ∃ E, E = rofE t n := ⟨_, rfl⟩
    rw [← hcs, ← hb] at LN
    rw [← hcs, ← hb, ← hz] at Sz Rf
    rw [← hR, ← hE] at Rf
    rw [← hz, ← hR, ← hE] at hD
    rw [← hz] at hs1000
    have LN' := Lib.hid LN
    have Sz' := Lib.hid Sz
    have Rf' := Lib.hid Rf
    have HD := Lib.hid hD
    have hn0 : (0 : Int) ≤ (n : Int) := by omega
    have hn9 : (n : Int) < 9 := by omega
    clear hcs hb hz hR hE LN Sz Rf hD
    by_cases hlen : t.size < z
    · have hl1 : (t.size : Int) < (z : Int) := by omega
      have hd := HD.out
      rw [if_pos hlen] at hd
      have HD1 := Lib.hid hd
      clear hd HD
      go_enter Tryd.func84, Tryd.ntmps84
      go_wp2_with (first
        | (go_at_call 93; (with_reducible refine (C.out).mono ?_); rintro e w1 ⟨rfl, hb1⟩; have hB1 := keepB hb1 g0 hB0; have ln := LN'.out w1 (HL.out.go hb1); have c0 := ln.1; have c1 := ln.2; have hlt := (HL.out.go hb1).lt; have g1 := Nat.lt_of_lt_of_le g0 hb1.size)
        | (go_at_call 94; (with_reducible refine (Sz'.out _).mono ?_); rintro e w2 ⟨rfl, hb2⟩; have hB2 := keepB hb2 (by simp; omega) (keepB ((Below.refl w1.heap.size w1).alloc (Nat.le_refl _) _) g1 hB1); have f2 := free_two hB2; have d2 := two_of hB2))
      have b2 := ((b0.trans (hb1.mono (by simp))).alloc (o := .cells #[.string cs, .int .i64 (b : Int)] 83) (Nat.le_of_lt g1)).trans (hb2.mono (by simp; omega))
      refine bodyPost_ret (v := .tuple #[primZ, .int .i64 0, .int .i64 8]) ?_ ?_ ?_
      rotate_left
      · rfl
      · exact ⟨by rw [HD1.out], (b2.setCell (Nat.le_refl _) _).setCell (Nat.le_refl _) _⟩
      · have q := two_put hB2 (.int .i64 0) (.string ⟨#[]⟩)
        have q0 := q.1
        have q1 := q.2
        simp [results, Tryd.results84, go_sem, q0, q1, primZ]
    · have hl1 : ¬ (t.size : Int) < (z : Int) := by omega
      have hl2 : (z : Int) ≤ (t.size : Int) := by omega
      have hz0 : (0 : Int) ≤ (z : Int) := by omega
      have RF := Lib.hid (Rf'.out (by omega))
      have hd := HD.out
      rw [if_neg hlen] at hd
      have HD1 := Lib.hid hd
      clear hd HD Rf'
      go_enter Tryd.func84, Tryd.ntmps84
      go_wp2_with (first
        | (go_at_call 93; (with_reducible refine (C.out).mono ?_); rintro e w1 ⟨rfl, hb1⟩; have hB1 := keepB hb1 g0 hB0; have ln := LN'.out w1 (HL.out.go hb1); have c0 := ln.1; have c1 := ln.2; have hlt := (HL.out.go hb1).lt; have g1 := Nat.lt_of_lt_of_le g0 hb1.size; have T1 := Lib.hid (HT.out.go hb1))
        | (go_at_call 94; (with_reducible refine (Sz'.out _).mono ?_); rintro e w2 ⟨rfl, hb2⟩))
      have ba := (Below.refl w1.heap.size w1).alloc (o := .cells #[.string cs, .int .i64 (b : Int)] 83) (Nat.le_refl _)
      have s2 := three_keepB hb2 (g := w.heap.size) (h := w1.heap.size) (by simp; omega) (by simp) ⟨keepB ba g1 hB1, two_new w1 (.string cs) (.int .i64 (b : Int)) 83⟩
      have b2 := ((b0.trans (hb1.mono (by simp))).alloc (o := .cells #[.string cs, .int .i64 (b : Int)] 83) (Nat.le_of_lt g1)).trans (hb2.mono (by simp; omega))
      have g2 : w1.heap.size < w2.heap.size := by have := hb2.size; simp at this; omega
      have T2 := Lib.hid (show Tab w2.drew from T1.out.go (ba.trans (hb2.mono (show w1.heap.size ≤ _ by simp))).drew)
      clear T1 hb1 hb2 ba hB1 c0 c1 ln hlt
      go_region_held3 (fun w' => w'.heap[w.heap.size]? = some (.cells #[.int .i64 0, .string ⟨#[]⟩] 69 (0, 0)) ∧ w'.cell? ⟨w1.heap.size, 0, none⟩ = some (.string cs) ∧ w'.cell? ⟨w1.heap.size, 1, none⟩ = some (.int .i64 (b : Int))) (first | exact s2 | exact s3 | exact s4)
        (first
          | (go_at_call 94; refine (Sz'.out _).mono ?_; rintro e w3 ⟨rfl, hb3⟩; have s3 := three_keepB hb3 (Nat.lt_trans g1 g2) g2 s2; have g3 := Nat.lt_of_lt_of_le g2 hb3.size; have T3 := Lib.hid (T2.out.go hb3))
          | (go_at_call 95; refine (RF.out _ T3.out).mono ?_; rintro e w4 ⟨rfl, hb4⟩; have s4 := three_keepB hb4 (Nat.lt_trans g1 g3) g3 s3; have g4 := Nat.lt_of_lt_of_le g3 hb4.size))
      have b4 := (b2.drew.trans (hb3.mono (Nat.le_of_lt (Nat.lt_trans g1 g2)))).trans (hb4.mono (Nat.le_of_lt (Nat.lt_trans g1 g3)))
      have hB4 := s4.1
      have k4 := s4.2
      have f4 := free_two hB4
      have d4 := two_of hB4
      clear hb3 hb4 b2 s2 s3 s4 g2 g3 T2 T3
      by_cases hE : E = 0
      · subst hE
        have hd := HD1.out
        rw [if_neg (by simp)] at hd
        have HD2 := Lib.hid hd
        clear hd HD1
        go_wp2_with (go_at_call 94; (with_reducible refine (Sz'.out _).mono ?_); rintro e w5 ⟨rfl, hb5⟩; have hB5 := keepB hb5 (Nat.lt_trans g1 g4) hB4; have f5 := free_two hB5; have d5 := two_of hB5)
        refine bodyPost_ret (v := .tuple #[.agg #[.int .i64 n, .string R], .int .i64 z, .int .i64 0]) ?_ ?_ ?_
        rotate_left
        · rfl
        · exact ⟨by rw [HD2.out], ((b4.trans (hb5.mono (Nat.le_of_lt (Nat.lt_trans g1 g4)))).setCell (Nat.le_refl _) _).setCell (Nat.le_refl _) _⟩
        · have q := two_put hB5 (.int .i64 n) (.string R)
          have q0 := q.1
          have q1 := q.2
          simp [results, Tryd.results84, go_sem, q0, q1]
      · have hxd : (E != 0) = true := by simp [hE]
        have hd := HD1.out
        rw [if_pos hE] at hd
        have HD2 := Lib.hid hd
        clear hd HD1
        go_wp2
        refine bodyPost_ret (v := .tuple #[primZ, .int .i64 0, .int .i64 E]) ?_ ?_ ?_
        rotate_left
        · rfl
        · exact ⟨by rw [HD2.out], (b4.setCell (Nat.le_refl _) _).setCell (Nat.le_refl _) _⟩
        · have q := two_put hB4 (.int .i64 0) (.string ⟨#[]⟩)
          have q0 := q.1
          have q1 := q.2
          simp [results, Tryd.results84, go_sem, q0, q1, primZ]

set_option maxRecDepth 100000 in
theorem yopen_any (c : Int) (t : ByteArray) (w : World) (hr : t.size ≤ maxLen - 2) (hT : Tab w) (hL : Lay w) : Calls Tryd.prog 64 #[.int .i64 c, .string t] w fun e w' => e = .returned (.tuple #[.string (opnS c t), .int .i64 (opnE c t)]) ∧ Below w.heap.size w w' := by
  have C := Lib.hid (ydecp_any t w hr hT hL)
  clear hT hL
  rw [decP_parts] at C
  unfold opnS opnE
  generalize decQ t = q at C ⊢
  obtain ⟨d, raw, n, x⟩ := q
  dsimp only at C ⊢
  by_cases hx : x = 0
  · subst hx
    by_cases hd : d = c
    · subst hd
      by_cases hn : n = t.size
      · subst hn
        rw [if_neg (by simp), if_neg (by simp), if_neg (by simp), if_neg (by simp)]
        go_enter Tryd.func64, Tryd.ntmps64
        go_wp2_with (go_at_call 84; (with_reducible refine (C.out).mono ?_); rintro e w1 ⟨rfl, hb1⟩)
        go_ret2
        exact ⟨rfl, hb1.alloc hb1.size _⟩
      · have hn1 : (n != (t.size : Int)) = true := by simp [hn]
        rw [if_pos (.inr (.inr hn)), if_neg (by simp), if_neg (by simp), if_pos hn]
        go_enter Tryd.func64, Tryd.ntmps64
        go_wp2_with (go_at_call 84; (with_reducible refine (C.out).mono ?_); rintro e w1 ⟨rfl, hb1⟩)
        go_ret2
        exact ⟨rfl, hb1.alloc hb1.size _⟩
    · have hd1 : (d != c) = true := by simp [hd]
      rw [if_pos (.inr (.inl hd)), if_neg (by simp), if_pos hd]
      go_enter Tryd.func64, Tryd.ntmps64
      go_wp2_with (go_at_call 84; (with_reducible refine (C.out).mono ?_); rintro e w1 ⟨rfl, hb1⟩)
      go_ret2
      exact ⟨rfl, hb1.alloc hb1.size _⟩
  · have hx1 : (x != 0) = true := by simp [hx]
    rw [if_pos (.inl hx), if_pos hx]
    go_enter Tryd.func64, Tryd.ntmps64
    go_wp2_with (go_at_call 84; (with_reducible refine (C.out).mono ?_); rintro e w1 ⟨rfl, hb1⟩)
    go_ret2
    exact ⟨rfl, hb1.alloc hb1.size _⟩

end Go.Proofs.YtpophimnoakinaaDoor
