/- Contracts of the small functions of package primitive: layoutOf, lead, size, Code, Raw, Size. The table of layouts must read as the program lays it. -/
import Derived.Test.YtpophimnoakinaaDoorPdec
namespace Go.Proofs.YtpophimnoakinaaDoor
open Go.ChangeShapes Go.WideShapes Go.ChangeAt Go.RowKit
set_option linter.unusedVariables false
set_option linter.unusedSimpArgs false

/-- The table of layouts reads as it is laid. -/
def Lay (w : World) : Prop := ∀ i, i < 9 → w.cell? ⟨1, i * 2, none⟩ = some (.string ⟨(codeL i).toArray⟩) ∧ w.cell? ⟨1, i * 2 + 1, none⟩ = some (.int .i64 (rawN i))
theorem Lay.lt {w : World} (h : Lay w) : 1 < w.heap.size := cell_lt (h 0 (by omega)).1
theorem Lay.below {w w' : World} (h : Lay w) {B : Nat} (hB : 1 < B) (hb : Below B w w') : Lay w' := fun i hi =>
  ⟨(hb.cell (p := ⟨1, i * 2, none⟩) hB).trans (h i hi).1, (hb.cell (p := ⟨1, i * 2 + 1, none⟩) hB).trans (h i hi).2⟩
theorem Lay.go {w w' : World} (h : Lay w) (hb : Below w.heap.size w w') : Lay w' := h.below h.lt hb

/-- What layoutOf returns. -/
def layR (c : Int) : Value := .tuple #[.agg #[.string ⟨(codeL c.toNat).toArray⟩, .int .i64 (rawI c)], .bool (decide (1 ≤ c ∧ c ≤ 8))]
theorem codeL_out {n : Nat} (h : n = 0 ∨ 8 < n) : codeL n = [] := by
  unfold codeL; split <;> first | omega | rfl

set_option maxRecDepth 100000 in
theorem layout_in (n : Nat) (w : World) (hn : n ≤ 8) (hL : Lay w) : Calls Tryd.prog 75 #[.int .i64 (n : Int)] w fun e w' => e = .returned (layR n) ∧ Below w.heap.size w w' := by
  obtain ⟨c0, c1⟩ := hL n (by omega)
  obtain ⟨R, hR⟩ : ∃ R, R = layR n := ⟨_, rfl⟩
  rw [← hR]
  unfold layR at hR
  rw [show ((n : Int)).toNat = n from rfl, show rawI (n : Int) = (rawN n : Int) from rfl] at hR
  obtain ⟨cs, hcs⟩ : ∃ cs : ByteArray, cs = ⟨(codeL n).toArray⟩ := ⟨_, rfl⟩
  obtain ⟨b, hb⟩ : ∃ b, b = rawN n := ⟨_, rfl⟩
  have hq : (cs.toList == (⟨#[]⟩ : ByteArray).toList) = !decide (1 ≤ (n : Int) ∧ (n : Int) ≤ 8) := by
    by_cases h0 : n = 0
    · subst h0; rw [show decide (1 ≤ ((0 : Nat) : Int) ∧ ((0 : Nat) : Int) ≤ 8) = false by decide]; exact same_str (by rw [hcs]; rfl)
    · rw [show decide (1 ≤ (n : Int) ∧ (n : Int) ≤ 8) = true from decide_eq_true (by omega)]
      refine other_str ?_
      rw [hcs]
      intro e
      have := congrArg ByteArray.size e
      have h1 : (codeL n).length = 0 := this
      rcases eight_codes (c := n) (by omega) (by omega) with rfl | rfl | rfl | rfl | rfl | rfl | rfl | rfl <;> cases h1
  rw [← hcs, ← hb] at hR
  rw [← hcs] at c0
  rw [← hb] at c1
  obtain ⟨x, hx⟩ : ∃ x, x = decide (1 ≤ (n : Int) ∧ (n : Int) ≤ 8) := ⟨_, rfl⟩
  rw [← hx] at hR hq
  have HR := Lib.hid hR
  have hlt := hL.lt
  clear hR hcs hb hx hL
  go_enter Tryd.func75, Tryd.ntmps75
  have hq1 : cs.toList.isEmpty = !x := by
    rw [← hq]
    cases h : cs.toList with
    | nil => simp
    | cons a l => simp
  go_wp2
  go_region
  go_wp2
  refine bodyPost_ret (v := .tuple #[.agg #[.string cs, .int .i64 b], .bool x]) ?_ ?_ ?_
  rotate_left
  · rfl
  · exact ⟨by rw [HR.out], (((Below.refl _ _).alloc (Nat.le_refl _) _).alloc (by simp) _).drew⟩
  · simp [results, Tryd.results75, go_sem, hq1]
theorem layR_out (c : Int) (h : c < 1 ∨ 8 < c) : layR c = .tuple #[.agg #[.string ⟨#[]⟩, .int .i64 0], .bool false] := by
  unfold layR
  rw [codeL_out (out_nat h), show rawI c = 0 by unfold rawI; rw [rawN_out (out_nat h)]; rfl, decide_eq_false (by omega)]
set_option maxRecDepth 100000 in
theorem layout_any (c : Int) (w : World) (hL : Lay w) : Calls Tryd.prog 75 #[.int .i64 c] w fun e w' => e = .returned (layR c) ∧ Below w.heap.size w w' := by
  by_cases h : 0 ≤ c ∧ c ≤ 8
  · obtain ⟨n, rfl⟩ : ∃ n : Nat, c = (n : Int) := ⟨c.toNat, by omega⟩
    exact layout_in n w (by omega) hL
  · rw [layR_out c (by omega)]
    clear hL
    rcases (show c < 0 ∨ 9 ≤ c by omega) with h' | h'
    · clear h
      go_enter Tryd.func75, Tryd.ntmps75
      go_wp2
      refine bodyPost_ret (v := .tuple #[.agg #[.string ⟨#[]⟩, .int .i64 0], .bool false]) ?_ ?_ ?_
      rotate_left
      · rfl
      · exact ⟨rfl, (Below.refl _ _).alloc (Nat.le_refl _) _⟩
      · simp [results, Tryd.results75, go_sem]
    · have h1 : ¬ c < 0 := by omega
      clear h
      go_enter Tryd.func75, Tryd.ntmps75
      go_wp2
      refine bodyPost_ret (v := .tuple #[.agg #[.string ⟨#[]⟩, .int .i64 0], .bool false]) ?_ ?_ ?_
      rotate_left
      · rfl
      · exact ⟨rfl, (Below.refl _ _).alloc (Nat.le_refl _) _⟩
      · simp [results, Tryd.results75, go_sem]

set_option maxRecDepth 100000 in
theorem ylead_any (cs : ByteArray) (b l : Nat) (w : World) (hb : b ≤ 1000) (hl : (3 - b % 3) % 3 = l) : Calls Tryd.prog 77 #[.agg #[.string cs, .int .i64 (b : Int)]] w fun e w' => e = .returned (.int .i64 (l : Int)) ∧ Below w.heap.size w w' := by
  have hf : (3 - (b : Int) % 3) % 3 = (l : Int) := by omega
  have HF := Lib.hid hf
  clear hl hf
  go_enter Tryd.func77, Tryd.ntmps77
  go_wp2
  go_ret
  exact ⟨by rw [← HF.out]; rfl, (Below.refl _ _).alloc (Nat.le_refl _) _⟩

theorem w64 (n : Int) (h : -9223372036854775808 ≤ n ∧ n ≤ 9223372036854775807) : IntKind.i64.wrap n = n := by rw [IntKind.wrap_i64]; omega
theorem size_wraps (k l b a : Nat) (hk : k ≤ 4) (hl : l ≤ 2) (hb : b ≤ 1000) (h : (k : Int) + ((l : Int) + (b : Int)) / 3 * 4 - (l : Int) = (a : Int)) :
    IntKind.i64.wrap (IntKind.i64.wrap ((k : Int) + IntKind.i64.wrap (IntKind.i64.wrap ((IntKind.i64.wrap ((l : Int) + (b : Int))).tdiv 3) * 4)) - (l : Int)) = (a : Int) := by
  rw [w64 ((l : Int) + (b : Int)) (by omega), Int.tdiv_eq_ediv_of_nonneg (by omega), w64 (((l : Int) + (b : Int)) / 3) (by omega), w64 (((l : Int) + (b : Int)) / 3 * 4) (by omega), w64 ((k : Int) + ((l : Int) + (b : Int)) / 3 * 4) (by omega), w64 _ (by omega)]
  exact h
set_option maxRecDepth 100000 in
theorem ysize_any (cs : ByteArray) (b l a : Nat) (w : World) (hb : b ≤ 1000) (hc : cs.size ≤ 4) (hl : (3 - b % 3) % 3 = l) (ha : cs.size + (l + b) / 3 * 4 = a + l) : Calls Tryd.prog 94 #[.agg #[.string cs, .int .i64 (b : Int)]] w fun e w' => e = .returned (.int .i64 (a : Int)) ∧ Below w.heap.size w w' := by
  have Ld := Lib.hid (fun (wx : World) => ylead_any cs b l wx hb hl)
  have hl2 : l ≤ 2 := by omega
  have hf : (cs.size : Int) + ((l : Int) + (b : Int)) / 3 * 4 - (l : Int) = (a : Int) := by omega
  have HF := Lib.hid (size_wraps cs.size l b a hc hl2 hb hf)
  have k0 := two_new w (.string cs) (.int .i64 (b : Int)) 83
  clear hl hf ha
  go_enter Tryd.func94, Tryd.ntmps94
  go_wp2
  have hg : w.heap.size < (w.alloc (.cells #[.string cs, .int .i64 (b : Int)] 83)).heap.size := by simp
  go_region_held3 (fun w' => w'.cell? ⟨w.heap.size, 0, none⟩ = some (.string cs) ∧ w'.cell? ⟨w.heap.size, 1, none⟩ = some (.int .i64 (b : Int))) (first | exact k0 | exact k1 | exact k2)
    (first
      | (go_at_call 77; refine (Ld.out _).mono ?_; rintro e w1 ⟨rfl, hb1⟩; have k1 := two_keep hb1 hg k0)
      | (go_at_call 77; refine (Ld.out _).mono ?_; rintro e w2 ⟨rfl, hb2⟩; have k2 := two_keep hb2 (Nat.lt_of_lt_of_le hg hb1.size) k1))
  rw [HF.out]
  go_wp2
  go_ret
  exact ⟨rfl, (((Below.refl _ _).alloc (Nat.le_refl _) _).drew.trans (hb1.mono (by simp))).trans (hb2.mono (by have := hb1.size; simp at this; omega))⟩
theorem ysize_code (n : Nat) (w : World) (hn : n ≤ 8) : Calls Tryd.prog 94 #[.agg #[.string ⟨(codeL n).toArray⟩, .int .i64 (rawN n : Int)]] w fun e w' => e = .returned (.int .i64 (sizeN n : Int)) ∧ Below w.heap.size w w' := by
  rcases Nat.eq_zero_or_pos n with rfl | h
  · exact ysize_any _ (rawN 0) 0 (sizeN 0) w (by decide) (by decide) (by decide) (by decide)
  · refine ysize_any _ (rawN n) (leadN n) (sizeN n) w ?_ ?_ rfl (size_code n h hn)
    · rcases eight_codes h hn with rfl | rfl | rfl | rfl | rfl | rfl | rfl | rfl <;> decide
    · show (codeL n).length ≤ 4
      rcases eight_codes h hn with rfl | rfl | rfl | rfl | rfl | rfl | rfl | rfl <;> decide


end Go.Proofs.YtpophimnoakinaaDoor
