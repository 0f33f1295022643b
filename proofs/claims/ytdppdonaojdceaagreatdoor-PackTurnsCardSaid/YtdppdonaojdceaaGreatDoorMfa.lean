/- The three serialisations by their numbers: the table that the program makes, where a number stands in it, and what is guessed of a string. -/
import Derived.Test.YtdppdonaojdceaaGreatDoorNst
import Derived.Test.YtdppdonaojdceaaGreatDoorWsc
namespace Go.Proofs.YtdppdonaojdceaaGreatDoor
open Go Go.ChangeShapes Go.WideShapes Go.ChangeAt Go.RowKit
set_option linter.unusedVariables false
set_option linter.unusedSimpArgs false

/-- A serialisation as a value. -/
def foC (j : Nat) : List Value := if j = 0 then [.int .i64 1, .func (.func 39) #[] #[], .func (.func 40) #[] #[], .func (.func 41) #[] #[]] else if j = 1 then [.int .i64 2, .func (.func 42) #[] #[], .func (.func 43) #[] #[], .func (.func 44) #[] #[]] else [.int .i64 3, .func (.func 18) #[] #[], .func (.func 45) #[] #[], .func (.func 46) #[] #[]]
def foAll : List Value := foC 0 ++ foC 1 ++ foC 2
theorem serials_any (w : World) : Calls Tryz.prog 24 #[] w fun e w' => e = .returned (.slice (some ⟨w.heap.size, 0, none⟩) 3 3) ∧ w' = w.alloc (.cells foAll.toArray 49) := by
 go_enter Tryz.func24, Tryz.ntmps24
 go_wp2
 go_ret
 exact ⟨rfl, rfl⟩
/-- The three as they stand in a block. -/
def FoAt (w : World) (g : Nat) : Prop := w.heap[g]? = some (.cells foAll.toArray 49 (0, 0))
theorem FoAt.at {w : World} {g : Nat} (h : FoAt w g) (j q : Nat) (hj : j < 3) (hq : q < 4) : w.cell? ⟨g, j * 4 + q, none⟩ = (foC j)[q]? := by
 obtain ⟨u, hu⟩ : ∃ u, (foC j)[q]? = some u := by
  rcases (by omega : j = 0 ∨ j = 1 ∨ j = 2) with rfl | rfl | rfl <;> rcases (by omega : q = 0 ∨ q = 1 ∨ q = 2 ∨ q = 3) with rfl | rfl | rfl | rfl <;> exact ⟨_, rfl⟩
 rw [hu]
 refine cell_blk h ?_
 rw [← hu]
 rcases (by omega : j = 0 ∨ j = 1 ∨ j = 2) with rfl | rfl | rfl <;> rcases (by omega : q = 0 ∨ q = 1 ∨ q = 2 ∨ q = 3) with rfl | rfl | rfl | rfl <;> rfl
set_option maxRecDepth 100000 in
/-- The closure that looks for a number. -/
theorem foeq_any (k form : Int) (F1 F2 F3 : Nat) (b : Nat) (w : World) (hc : w.cell? ⟨b, 0, none⟩ = some (.int .i64 form)) (hb : b < w.heap.size) : Calls Tryz.prog 35 #[.agg #[.int .i64 k, .func (.func F1) #[] #[], .func (.func F2) #[] #[], .func (.func F3) #[] #[]], .pointer (some ⟨b, 0, none⟩)] w fun e w' => e = .returned (.bool (k == form)) ∧ Below w.heap.size w w' := by
 have b1 := (Below.refl w.heap.size w).alloc (o := .cells #[.int .i64 k, .func (.func F1) #[] #[], .func (.func F2) #[] #[], .func (.func F3) #[] #[]] 49) (Nat.le_refl _)
 have k1 := heap_alloc_new w (.cells #[.int .i64 k, .func (.func F1) #[] #[], .func (.func F2) #[] #[], .func (.func F3) #[] #[]] 49)
 have c1 := (b1.cell (p := ⟨b, 0, none⟩) hb).trans hc
 go_enter Tryz.func35, Tryz.ntmps35
 go_upto_region 1 with fail
 generalize w.alloc _ = w1 at b1 k1 c1 ⊢
 have c0 := cell_blk k1 (j := 0) rfl
 go_wp2
 go_ret
 exact ⟨rfl, b1⟩
/-- Where a number stands. -/
def foI (k : Int) : Int := if k = 1 then 0 else if k = 2 then 1 else if k = 3 then 2 else -1
set_option maxHeartbeats 3200000 in
set_option maxRecDepth 100000 in
theorem foix_any (form : Int) (g b : Nat) (w : World) (h : FoAt w g) (hc : w.cell? ⟨b, 0, none⟩ = some (.int .i64 form)) (hb : b < w.heap.size) : Calls Tryz.prog 34 #[.slice (some ⟨g, 0, none⟩) 3 3, .func (.func 35) #[] #[.pointer (some ⟨b, 0, none⟩)]] w fun e w' => e = .returned (.int .i64 (foI form)) ∧ Below w.heap.size w w' := by
 have EQ := Lib.hid (fun (k : Int) (F1 F2 F3 : Nat) (wx : World) (hx : Below w.heap.size w wx) => foeq_any k form F1 F2 F3 b wx ((hx.cell (p := ⟨b, 0, none⟩) hb).trans hc) (Nat.lt_of_lt_of_le hb hx.size))
 have H := Lib.hid h
 have hgl := lt_of_block h
 clear h hc
 go_enter Tryz.func34, Tryz.ntmps34
 go_upto_region 2 with fail
 go_loopw [8] (fun i wr => ∃ j : Nat, j ≤ 3 ∧ i = .int .i64 (j : Int) ∧ (∀ i : Nat, i < j → form ≠ (i : Int) + 1) ∧ Below w.heap.size w wr) (fun i _ => 3 - (intOf i).toNat)
 case atStart => exact ⟨0, by omega, rfl, (fun i hi => absurd hi (Nat.not_lt_zero _)), Below.refl _ _⟩
 case round =>
  obtain ⟨j, hj, rfl, hno, hbr⟩ := hrel
  have HNO := Lib.hid hno
  have HBR := Lib.hid hbr
  have HA : FoAt wr g := (hbr.block g hgl).trans H.out
  clear hno hbr
  rcases (by omega : j = 0 ∨ j = 1 ∨ j = 2 ∨ j = 3) with rfl | rfl | rfl | rfl
  rotate_right
  ·go_wp2
   go_ret
   refine ⟨?_, HBR.out⟩
   have h0 := HNO.out 0 (by omega)
   have h1 := HNO.out 1 (by omega)
   have h2 := HNO.out 2 (by omega)
   unfold foI
   rw [if_neg (by omega), if_neg (by omega), if_neg (by omega)]
   rfl
  ·have s0 : wr.cell? ⟨g, 0, none⟩ = some (.int .i64 1) := HA.at 0 0 (by decide) (by decide)
   have s1 : wr.cell? ⟨g, 1, none⟩ = some (.func (.func 39) #[] #[]) := HA.at 0 1 (by decide) (by decide)
   have s2 : wr.cell? ⟨g, 2, none⟩ = some (.func (.func 40) #[] #[]) := HA.at 0 2 (by decide) (by decide)
   have s3 : wr.cell? ⟨g, 3, none⟩ = some (.func (.func 41) #[] #[]) := HA.at 0 3 (by decide) (by decide)
   have E := Lib.hid (EQ.out 1 39 40 41 wr HBR.out)
   cases hq : ((1 : Int) == form) with
   | true =>
    rw [hq] at E
    have hf : Hid (foI form = 0) := Lib.hid (by rw [← eq_of_beq hq]; rfl)
    clear hq HA
    go_wp2_with (go_at_call 35; (with_reducible refine (E.out).mono ?_); rintro e w3 ⟨rfl, hb3⟩)
    go_ret
    exact ⟨by rw [hf.out]; rfl, HBR.out.trans (hb3.mono HBR.out.size)⟩
   | false =>
    rw [hq] at E
    have hne : form ≠ 1 := fun h => by rw [h] at hq; cases hq
    have HNE := Lib.hid hne
    clear hq HA hne
    go_wp2_with (go_at_call 35; (with_reducible refine (E.out).mono ?_); rintro e w3 ⟨rfl, hb3⟩)
    go_roundw
    case rel => exact ⟨1, by omega, by go_num, fun i hi => by
     rcases (by omega : i < 0 ∨ i = 0) with h | h
     ·exact HNO.out i h
     ·subst h; exact HNE.out, HBR.out.trans (hb3.mono HBR.out.size)⟩
    case measure => simp [intOf]
  ·have s0 : wr.cell? ⟨g, 4, none⟩ = some (.int .i64 2) := HA.at 1 0 (by decide) (by decide)
   have s1 : wr.cell? ⟨g, 5, none⟩ = some (.func (.func 42) #[] #[]) := HA.at 1 1 (by decide) (by decide)
   have s2 : wr.cell? ⟨g, 6, none⟩ = some (.func (.func 43) #[] #[]) := HA.at 1 2 (by decide) (by decide)
   have s3 : wr.cell? ⟨g, 7, none⟩ = some (.func (.func 44) #[] #[]) := HA.at 1 3 (by decide) (by decide)
   have E := Lib.hid (EQ.out 2 42 43 44 wr HBR.out)
   cases hq : ((2 : Int) == form) with
   | true =>
    rw [hq] at E
    have hf : Hid (foI form = 1) := Lib.hid (by rw [← eq_of_beq hq]; rfl)
    clear hq HA
    go_wp2_with (go_at_call 35; (with_reducible refine (E.out).mono ?_); rintro e w3 ⟨rfl, hb3⟩)
    go_ret
    exact ⟨by rw [hf.out]; rfl, HBR.out.trans (hb3.mono HBR.out.size)⟩
   | false =>
    rw [hq] at E
    have hne : form ≠ 2 := fun h => by rw [h] at hq; cases hq
    have HNE := Lib.hid hne
    clear hq HA hne
    go_wp2_with (go_at_call 35; (with_reducible refine (E.out).mono ?_); rintro e w3 ⟨rfl, hb3⟩)
    go_roundw
    case rel => exact ⟨2, by omega, by go_num, fun i hi => by
     rcases (by omega : i < 1 ∨ i = 1) with h | h
     ·exact HNO.out i h
     ·subst h; exact HNE.out, HBR.out.trans (hb3.mono HBR.out.size)⟩
    case measure => simp [intOf]
  ·have s0 : wr.cell? ⟨g, 8, none⟩ = some (.int .i64 3) := HA.at 2 0 (by decide) (by decide)
   have s1 : wr.cell? ⟨g, 9, none⟩ = some (.func (.func 18) #[] #[]) := HA.at 2 1 (by decide) (by decide)
   have s2 : wr.cell? ⟨g, 10, none⟩ = some (.func (.func 45) #[] #[]) := HA.at 2 2 (by decide) (by decide)
   have s3 : wr.cell? ⟨g, 11, none⟩ = some (.func (.func 46) #[] #[]) := HA.at 2 3 (by decide) (by decide)
   have E := Lib.hid (EQ.out 3 18 45 46 wr HBR.out)
   cases hq : ((3 : Int) == form) with
   | true =>
    rw [hq] at E
    have hf : Hid (foI form = 2) := Lib.hid (by rw [← eq_of_beq hq]; rfl)
    clear hq HA
    go_wp2_with (go_at_call 35; (with_reducible refine (E.out).mono ?_); rintro e w3 ⟨rfl, hb3⟩)
    go_ret
    exact ⟨by rw [hf.out]; rfl, HBR.out.trans (hb3.mono HBR.out.size)⟩
   | false =>
    rw [hq] at E
    have hne : form ≠ 3 := fun h => by rw [h] at hq; cases hq
    have HNE := Lib.hid hne
    clear hq HA hne
    go_wp2_with (go_at_call 35; (with_reducible refine (E.out).mono ?_); rintro e w3 ⟨rfl, hb3⟩)
    go_roundw
    case rel => exact ⟨3, by omega, by go_num, fun i hi => by
     rcases (by omega : i < 2 ∨ i = 2) with h | h
     ·exact HNO.out i h
     ·subst h; exact HNE.out, HBR.out.trans (hb3.mono HBR.out.size)⟩
    case measure => simp [intOf]
theorem foI_cases (k : Int) : (k = 1 ∧ foI k = 0) ∨ (k = 2 ∧ foI k = 1) ∨ (k = 3 ∧ foI k = 2) ∨ ((k < 1 ∨ 3 < k) ∧ foI k = -1) := by
 unfold foI
 by_cases h1 : k = 1
 ·exact .inl ⟨h1, by rw [if_pos h1]⟩
 by_cases h2 : k = 2
 ·exact .inr (.inl ⟨h2, by rw [if_neg h1, if_pos h2]⟩)
 by_cases h3 : k = 3
 ·exact .inr (.inr (.inl ⟨h3, by rw [if_neg h1, if_neg h2, if_pos h3]⟩))
 exact .inr (.inr (.inr ⟨by omega, by rw [if_neg h1, if_neg h2, if_neg h3]⟩))
/-- What is found for a number. -/
def foR (k : Int) : List Value := if k = 1 then foC 0 else if k = 2 then foC 1 else if k = 3 then foC 2 else [.int .i64 0, .nilFunc, .nilFunc, .nilFunc]
end Go.Proofs.YtdppdonaojdceaaGreatDoor
