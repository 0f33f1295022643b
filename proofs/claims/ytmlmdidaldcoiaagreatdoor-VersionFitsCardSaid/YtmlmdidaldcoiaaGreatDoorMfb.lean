/- The three serialisations by their numbers: the table that the program makes, where a number stands in it, and what is guessed of a string. -/
import Derived.Test.YtmlmdidaldcoiaaGreatDoorWsc
import Derived.Laws.EntriesVeiled
namespace Go.Proofs.YtmlmdidaldcoiaaGreatDoor
open Go Go.ChangeShapes Go.WideShapes Go.ChangeAt Go.RowKit
set_option linter.unusedVariables false
set_option linter.unusedSimpArgs false

/-- A serialisation as a value. -/
def foC (j : Nat) : List Value := if j = 0 then [.int .i64 1, .func (.func 99) #[] #[], .func (.func 100) #[] #[], .func (.func 101) #[] #[]] else if j = 1 then [.int .i64 2, .func (.func 102) #[] #[], .func (.func 103) #[] #[], .func (.func 104) #[] #[]] else [.int .i64 3, .func (.func 105) #[] #[], .func (.func 106) #[] #[], .func (.func 107) #[] #[]]
def foAll : List Value := foC 0 ++ foC 1 ++ foC 2
theorem serials_any (w : World) : Calls Tryz.prog 66 #[] w fun e w' => e = .returned (.slice (some ⟨w.heap.size, 0, none⟩) 3 3) ∧ w' = w.alloc (.cells foAll.toArray 76) := by
 go_enter Tryz.func66, Tryz.ntmps66
 go_wp2
 go_ret
 exact ⟨rfl, rfl⟩
/-- The three as they stand in a block. -/
def FoAt (w : World) (g : Nat) : Prop := w.heap[g]? = some (.cells foAll.toArray 76 (0, 0))
theorem FoAt.at {w : World} {g : Nat} (h : FoAt w g) (j q : Nat) (hj : j < 3) (hq : q < 4) : w.cell? ⟨g, j * 4 + q, none⟩ = (foC j)[q]? := by
 obtain ⟨u, hu⟩ : ∃ u, (foC j)[q]? = some u := by
  rcases (by omega : j = 0 ∨ j = 1 ∨ j = 2) with rfl | rfl | rfl <;> rcases (by omega : q = 0 ∨ q = 1 ∨ q = 2 ∨ q = 3) with rfl | rfl | rfl | rfl <;> exact ⟨_, rfl⟩
 rw [hu]
 refine cell_blk h ?_
 rw [← hu]
 rcases (by omega : j = 0 ∨ j = 1 ∨ j = 2) with rfl | rfl | rfl <;> rcases (by omega : q = 0 ∨ q = 1 ∨ q = 2 ∨ q = 3) with rfl | rfl | rfl | rfl <;> rfl
set_option maxRecDepth 100000 in
/-- The closure that looks for a number. -/
theorem foeq_any (k form : Int) (F1 F2 F3 : Nat) (b : Nat) (w : World) (hc : w.cell? ⟨b, 0, none⟩ = some (.int .i64 form)) (hb : b < w.heap.size) : Calls Tryz.prog 68 #[.agg #[.int .i64 k, .func (.func F1) #[] #[], .func (.func F2) #[] #[], .func (.func F3) #[] #[]], .pointer (some ⟨b, 0, none⟩)] w fun e w' => e = .returned (.bool (k == form)) ∧ Below w.heap.size w w' := by
 have b1 := (Below.refl w.heap.size w).alloc (o := .cells #[.int .i64 k, .func (.func F1) #[] #[], .func (.func F2) #[] #[], .func (.func F3) #[] #[]] 76) (Nat.le_refl _)
 have k1 := heap_alloc_new w (.cells #[.int .i64 k, .func (.func F1) #[] #[], .func (.func F2) #[] #[], .func (.func F3) #[] #[]] 76)
 have c1 := (b1.cell (p := ⟨b, 0, none⟩) hb).trans hc
 go_enter Tryz.func68, Tryz.ntmps68
 go_upto_region 1 with fail
 generalize w.alloc _ = w1 at b1 k1 c1 ⊢
 have c0 := cell_blk k1 (j := 0) rfl
 go_wp2
 go_ret
 exact ⟨rfl, b1⟩
/-- Where a number stands. -/
def foI (k : Int) : Int := if k = 1 then 0 else if k = 2 then 1 else if k = 3 then 2 else -1
set_option maxHeartbeats 3200000 in
set_option maxRecDepth 100000 in
theorem foix_any (form : Int) (g b : Nat) (w : World) (h : FoAt w g) (hc : w.cell? ⟨b, 0, none⟩ = some (.int .i64 form)) (hb : b < w.heap.size) : Calls Tryz.prog 67 #[.slice (some ⟨g, 0, none⟩) 3 3, .func (.func 68) #[] #[.pointer (some ⟨b, 0, none⟩)]] w fun e w' => e = .returned (.int .i64 (foI form)) ∧ Below w.heap.size w w' := by
 have EQ := Lib.hid (fun (k : Int) (F1 F2 F3 : Nat) (wx : World) (hx : Below w.heap.size w wx) => foeq_any k form F1 F2 F3 b wx ((hx.cell (p := ⟨b, 0, none⟩) hb).trans hc) (Nat.lt_of_lt_of_le hb hx.size))
 have H := Lib.hid h
 have hgl := lt_of_block h
 clear h hc
 go_enter Tryz.func67, Tryz.ntmps67
 go_upto_region 2 with fail
 go_loopw [8] (fun i wr => ∃ j : Nat, j ≤ 3 ∧ i = .int .i64 (j : Int) ∧ (∀ i : Nat, i < j → form ≠ (i : Int) + 1) ∧ Below w.heap.size w wr) (fun i _ => 3 - (intOf i).toNat)
 case atStart => exact ⟨0, by omega, rfl, (fun i hi => absurd hi (Nat.not_lt_zero _)), Below.refl _ _⟩
 case round =>
  obtain ⟨j, hj, rfl, hno, hbr⟩ := hrel
  have HNO := Lib.hid hno
  have HBR := Lib.hid hbr
  have HA : FoAt wr g := (hbr.block g hgl).trans H.out
  clear hno hbr
  rcases (by omega : j = 0 ∨ j = 1 ∨ j = 2 ∨ j = 3) with rfl | rfl | rfl | rfl
  rotate_right
  ·go_wp2
   go_ret
   refine ⟨?_, HBR.out⟩
   have h0 := HNO.out 0 (by omega)
   have h1 := HNO.out 1 (by omega)
   have h2 := HNO.out 2 (by omega)
   unfold foI
   rw [if_neg (by omega), if_neg (by omega), if_neg (by omega)]
   rfl
  ·have s0 : wr.cell? ⟨g, 0, none⟩ = some (.int .i64 1) := HA.at 0 0 (by decide) (by decide)
   have s1 : wr.cell? ⟨g, 1, none⟩ = some (.func (.func 99) #[] #[]) := HA.at 0 1 (by decide) (by decide)
   have s2 : wr.cell? ⟨g, 2, none⟩ = some (.func (.func 100) #[] #[]) := HA.at 0 2 (by decide) (by decide)
   have s3 : wr.cell? ⟨g, 3, none⟩ = some (.func (.func 101) #[] #[]) := HA.at 0 3 (by decide) (by decide)
   have E := Lib.hid (EQ.out 1 99 100 101 wr HBR.out)
   cases hq : ((1 : Int) == form) with
   | true =>
    rw [hq] at E
    have hf : Hid (foI form = 0) := Lib.hid (by rw [← eq_of_beq hq]; rfl)
    clear hq HA
    go_wp2_with (go_at_call 68; (with_reducible refine (E.out).mono ?_); rintro e w3 ⟨rfl, hb3⟩)
    go_ret
    exact ⟨by rw [hf.out]; rfl, HBR.out.trans (hb3.mono HBR.out.size)⟩
   | false =>
    rw [hq] at E
    have hne : form ≠ 1 := fun h => by rw [h] at hq; cases hq
    have HNE := Lib.hid hne
    clear hq HA hne
    go_wp2_with (go_at_call 68; (with_reducible refine (E.out).mono ?_); rintro e w3 ⟨rfl, hb3⟩)
    go_roundw
    case rel => exact ⟨1, by omega, by go_num, fun i hi => by
     rcases (by omega : i < 0 ∨ i = 0) with h | h
     ·exact HNO.out i h
     ·subst h; exact HNE.out, HBR.out.trans (hb3.mono HBR.out.size)⟩
    case measure => simp [intOf]
  ·have s0 : wr.cell? ⟨g, 4, none⟩ = some (.int .i64 2) := HA.at 1 0 (by decide) (by decide)
   have s1 : wr.cell? ⟨g, 5, none⟩ = some (.func (.func 102) #[] #[]) := HA.at 1 1 (by decide) (by decide)
   have s2 : wr.cell? ⟨g, 6, none⟩ = some (.func (.func 103) #[] #[]) := HA.at 1 2 (by decide) (by decide)
   have s3 : wr.cell? ⟨g, 7, none⟩ = some (.func (.func 104) #[] #[]) := HA.at 1 3 (by decide) (by decide)
   have E := Lib.hid (EQ.out 2 102 103 104 wr HBR.out)
   cases hq : ((2 : Int) == form) with
   | true =>
    rw [hq] at E
    have hf : Hid (foI form = 1) := Lib.hid (by rw [← eq_of_beq hq]; rfl)
    clear hq HA
    go_wp2_with (go_at_call 68; (with_reducible refine (E.out).mono ?_); rintro e w3 ⟨rfl, hb3⟩)
    go_ret
    exact ⟨by rw [hf.out]; rfl, HBR.out.trans (hb3.mono HBR.out.size)⟩
   | false =>
    rw [hq] at E
    have hne : form ≠ 2 := fun h => by rw [h] at hq; cases hq
    have HNE := Lib.hid hne
    clear hq HA hne
    go_wp2_with (go_at_call 68; (with_reducible refine (E.out).mono ?_); rintro e w3 ⟨rfl, hb3⟩)
    go_roundw
    case rel => exact ⟨2, by omega, by go_num, fun i hi => by
     rcases (by omega : i < 1 ∨ i = 1) with h | h
     ·exact HNO.out i h
     ·subst h; exact HNE.out, HBR.out.trans (hb3.mono HBR.out.size)⟩
    case measure => simp [intOf]
  ·have s0 : wr.cell? ⟨g, 8, none⟩ = some (.int .i64 3) := HA.at 2 0 (by decide) (by decide)
   have s1 : wr.cell? ⟨g, 9, none⟩ = some (.func (.func 105) #[] #[]) := HA.at 2 1 (by decide) (by decide)
   have s2 : wr.cell? ⟨g, 10, none⟩ = some (.func (.func 106) #[] #[]) := HA.at 2 2 (by decide) (by decide)
   have s3 : wr.cell? ⟨g, 11, none⟩ = some (.func (.func 107) #[] #[]) := HA.at 2 3 (by decide) (by decide)
   have E := Lib.hid (EQ.out 3 105 106 107 wr HBR.out)
   cases hq : ((3 : Int) == form) with
   | true =>
    rw [hq] at E
    have hf : Hid (foI form = 2) := Lib.hid (by rw [← eq_of_beq hq]; rfl)
    clear hq HA
    go_wp2_with (go_at_call 68; (with_reducible refine (E.out).mono ?_); rintro e w3 ⟨rfl, hb3⟩)
    go_ret
    exact ⟨by rw [hf.out]; rfl, HBR.out.trans (hb3.mono HBR.out.size)⟩
   | false =>
    rw [hq] at E
    have hne : form ≠ 3 := fun h => by rw [h] at hq; cases hq
    have HNE := Lib.hid hne
    clear hq HA hne
    go_wp2_with (go_at_call 68; (with_reducible refine (E.out).mono ?_); rintro e w3 ⟨rfl, hb3⟩)
    go_roundw
    case rel => exact ⟨3, by omega, by go_num, fun i hi => by
     rcases (by omega : i < 2 ∨ i = 2) with h | h
     ·exact HNO.out i h
     ·subst h; exact HNE.out, HBR.out.trans (hb3.mono HBR.out.size)⟩
    case measure => simp [intOf]
theorem foI_cases (k : Int) : (k = 1 ∧ foI k = 0) ∨ (k = 2 ∧ foI k = 1) ∨ (k = 3 ∧ foI k = 2) ∨ ((k < 1 ∨ 3 < k) ∧ foI k = -1) := by
 unfold foI
 by_cases h1 : k = 1
 ·exact .inl ⟨h1, by rw [if_pos h1]⟩
 by_cases h2 : k = 2
 ·exact .inr (.inl ⟨h2, by rw [if_neg h1, if_pos h2]⟩)
 by_cases h3 : k = 3
 ·exact .inr (.inr (.inl ⟨h3, by rw [if_neg h1, if_neg h2, if_pos h3]⟩))
 exact .inr (.inr (.inr ⟨by omega, by rw [if_neg h1, if_neg h2, if_neg h3]⟩))
/-- What is found for a number. -/
def foR (k : Int) : List Value := if k = 1 then foC 0 else if k = 2 then foC 1 else if k = 3 then foC 2 else [.int .i64 0, .nilFunc, .nilFunc, .nilFunc]
end Go.Proofs.YtmlmdidaldcoiaaGreatDoor
/- The serialisation with a number, or none. -/
namespace Go.Proofs.YtmlmdidaldcoiaaGreatDoor
open Go Go.ChangeShapes Go.WideShapes Go.ChangeAt Go.RowKit
set_option linter.unusedVariables false
set_option linter.unusedSimpArgs false

section
variable {w : World} {g : Nat} {T : Nat} {a b c d : Value}
theorem four_of (h : w.heap[g]? = some (.cells #[a, b, c, d] T (0, 0))) : w.cell? ⟨g, 0, none⟩ = some a ∧ w.cell? ⟨g, 1, none⟩ = some b ∧ w.cell? ⟨g, 2, none⟩ = some c ∧ w.cell? ⟨g, 3, none⟩ = some d := by
 simp [World.cell?, h]
theorem free_four (h : w.heap[g]? = some (.cells #[a, b, c, d] T (0, 0))) : w.frozen? ⟨g, 0, none⟩ = false ∧ w.frozen? ⟨g, 1, none⟩ = false ∧ w.frozen? ⟨g, 2, none⟩ = false ∧ w.frozen? ⟨g, 3, none⟩ = false := by
 simp [World.frozen?, h]
def set4 (w : World) (g : Nat) (a b c d : Value) : World := (((w.setCell ⟨g, 0, none⟩ a).setCell ⟨g, 1, none⟩ b).setCell ⟨g, 2, none⟩ c).setCell ⟨g, 3, none⟩ d
theorem four_put (h : w.heap[g]? = some (.cells #[a, b, c, d] T (0, 0))) (a' b' c' d' : Value) : (set4 w g a' b' c' d').heap[g]? = some (.cells #[a', b', c', d'] T (0, 0)) := by
 have h0 : (w.setCell ⟨g, 0, none⟩ a').heap[g]? = some (.cells #[a', b, c, d] T (0, 0)) := heap_set h a'
 have h1 : ((w.setCell ⟨g, 0, none⟩ a').setCell ⟨g, 1, none⟩ b').heap[g]? = some (.cells #[a', b', c, d] T (0, 0)) := heap_set h0 b'
 have h2 : (((w.setCell ⟨g, 0, none⟩ a').setCell ⟨g, 1, none⟩ b').setCell ⟨g, 2, none⟩ c').heap[g]? = some (.cells #[a', b', c', d] T (0, 0)) := heap_set h1 c'
 exact heap_set h2 d'
theorem grown_set4 (w : World) (g : Nat) (a b c d : Value) : w.grownBy (set4 w g a b c d) (some g) :=
 gtrans (gtrans (gtrans (grown_set w g 0 a) (grown_set _ g 1 b)) (grown_set _ g 2 c)) (grown_set _ g 3 d)
end
theorem FoAt.all {w : World} {g : Nat} (h : FoAt w g) : (w.cell? ⟨g, 0, none⟩ = (foC 0)[0]? ∧ w.cell? ⟨g, 1, none⟩ = (foC 0)[1]? ∧ w.cell? ⟨g, 2, none⟩ = (foC 0)[2]? ∧ w.cell? ⟨g, 3, none⟩ = (foC 0)[3]?) ∧ (w.cell? ⟨g, 4, none⟩ = (foC 1)[0]? ∧ w.cell? ⟨g, 5, none⟩ = (foC 1)[1]? ∧ w.cell? ⟨g, 6, none⟩ = (foC 1)[2]? ∧ w.cell? ⟨g, 7, none⟩ = (foC 1)[3]?) ∧ (w.cell? ⟨g, 8, none⟩ = (foC 2)[0]? ∧ w.cell? ⟨g, 9, none⟩ = (foC 2)[1]? ∧ w.cell? ⟨g, 10, none⟩ = (foC 2)[2]? ∧ w.cell? ⟨g, 11, none⟩ = (foC 2)[3]?) :=
 ⟨⟨h.at 0 0 (by decide) (by decide), h.at 0 1 (by decide) (by decide), h.at 0 2 (by decide) (by decide), h.at 0 3 (by decide) (by decide)⟩, ⟨h.at 1 0 (by decide) (by decide), h.at 1 1 (by decide) (by decide), h.at 1 2 (by decide) (by decide), h.at 1 3 (by decide) (by decide)⟩, ⟨h.at 2 0 (by decide) (by decide), h.at 2 1 (by decide) (by decide), h.at 2 2 (by decide) (by decide), h.at 2 3 (by decide) (by decide)⟩⟩
/-- Whether there is one. -/
def foB (k : Int) : Bool := if k = 1 then true else if k = 2 then true else if k = 3 then true else false
theorem foof_none {k : Int} (h : k < 1 ∨ 3 < k) : foR k = [.int .i64 0, .nilFunc, .nilFunc, .nilFunc] ∧ foB k = false := by
 unfold foR foB
 exact ⟨by rw [if_neg (by omega), if_neg (by omega), if_neg (by omega)], by rw [if_neg (by omega), if_neg (by omega), if_neg (by omega)]⟩
set_option maxHeartbeats 3200000 in
set_option maxRecDepth 100000 in
theorem foof_any (k : Int) (w : World) : Calls Tryz.prog 41 #[.int .i64 k] w fun e w' => e = .returned (.tuple #[.agg (foR k).toArray, .bool (foB k)]) ∧ Below w.heap.size w w' := by
 have SE := Lib.hid (fun wx : World => serials_any wx)
 have IX := Lib.hid (fun (g b : Nat) (wx : World) (h : FoAt wx g) (hc : wx.cell? ⟨b, 0, none⟩ = some (.int .i64 k)) (hb : b < wx.heap.size) => foix_any k g b wx h hc hb)
 have b1 := (Below.refl w.heap.size w).alloc (o := .cells #[.int .i64 k] 3) (Nat.le_refl _)
 have k1 := heap_alloc_new w (.cells #[.int .i64 k] 3)
 have z1 : (w.alloc (.cells #[.int .i64 k] 3)).heap.size = w.heap.size + 1 := by simp
 go_enter Tryz.func41, Tryz.ntmps41
 go_upto_region 1 with fail
 generalize w.alloc _ = w1 at b1 k1 z1 ⊢
 have b2 := (Below.refl w1.heap.size w1).alloc (o := .cells #[.int .i64 0, .nilFunc, .nilFunc, .nilFunc] 76) (Nat.le_refl _)
 have k2 := heap_alloc_new w1 (.cells #[.int .i64 0, .nilFunc, .nilFunc, .nilFunc] 76)
 rw [z1] at k2
 generalize w1.alloc _ = w2 at b2 k2 ⊢
 have hs1 := lt_of_block k1
 have hB2 : Below w.heap.size w w2 := b1.trans (b2.mono b1.size)
 have hk2 := (b2.block _ hs1).trans k1
 clear b1 k1 z1 b2 hs1
 go_upto_region 2 with (go_at_call 66; (with_reducible refine (SE.out _).mono ?_); rintro e w3 ⟨rfl, rfl⟩)
 have b3 := (Below.refl w2.heap.size w2).alloc (o := .cells foAll.toArray 76) (Nat.le_refl _)
 have k3 := heap_alloc_new w2 (.cells foAll.toArray 76)
 generalize w2.alloc _ = w3 at b3 k3 ⊢
 have hl1 := lt_of_block hk2
 have hl2 := lt_of_block k2
 have q1 : w3.cell? ⟨w.heap.size, 0, none⟩ = some (.int .i64 k) := cell_blk ((b3.block _ hl1).trans hk2) (j := 0) rfl
 have IX3 := Lib.hid (IX.out w2.heap.size w.heap.size w3 k3 q1 (Nat.lt_of_lt_of_le hl1 b3.size))
 have hB3 := hB2.trans (b3.mono hB2.size)
 have k23 := (b3.block _ hl2).trans k2
 clear IX SE q1 b3 hk2 hB2 hl1
 go_upto_region 3 with (go_at_call 67; (with_reducible refine (IX3.out).mono ?_); rintro e w4 ⟨rfl, hb4⟩)
 have k24 := (hb4.block _ (lt_of_block k23)).trans k23
 have k34 : FoAt w4 w2.heap.size := (hb4.block _ (lt_of_block k3)).trans k3
 have HB := Lib.hid (hB3.trans (hb4.mono hB3.size))
 have HK := Lib.hid k24
 have f1 := free_four k24
 have c1 := four_of k24
 generalize w2.heap.size = gt at k34 ⊢
 clear k3 k23 k2 hl2 hB3 hb4 IX3 k24
 have fin : Hid (∀ a b c d : Value, Below w.heap.size w (set4 w4 (w.heap.size + 1) a b c d)) := Lib.hid fun a b c d => HB.out.grown (grown_set4 w4 (w.heap.size + 1) a b c d) HB.out.size (fun k hk => by cases hk; exact Nat.le_succ _)
 generalize w.heap.size + 1 = g2 at HK f1 c1 fin ⊢
 rcases foI_cases k with ⟨rfl, hI⟩ | ⟨rfl, hI⟩ | ⟨rfl, hI⟩ | ⟨hk, hI⟩
 rotate_right
 ·rw [hI]
  have HF := Lib.hid (foof_none hk)
  clear hI hk k34
  go_wp2
  refine bodyPost_ret (v := .tuple #[.agg #[.int .i64 0, .nilFunc, .nilFunc, .nilFunc], .bool false]) ?_ ?_ ?_
  rotate_left
  ·rfl
  ·exact ⟨by rw [HF.out.1, HF.out.2], fin.out _ _ _ _⟩
  ·obtain ⟨q0, q1, q2, q3⟩ := four_of (four_put HK.out (.int .i64 0) .nilFunc .nilFunc .nilFunc)
   simp only [set4] at q0 q1 q2 q3
   simp [results, Tryz.results41, go_sem, q0, q1, q2, q3]
 ·rw [hI]
  obtain ⟨⟨s0, s1, s2, s3⟩, -, -⟩ := k34.all
  simp [foC] at s0 s1 s2 s3
  clear hI k34
  go_wp2
  refine bodyPost_ret (v := .tuple #[.agg (foC 0).toArray, .bool true]) ?_ ?_ ?_
  rotate_left
  ·rfl
  ·exact ⟨rfl, fin.out _ _ _ _⟩
  ·obtain ⟨q0, q1, q2, q3⟩ := four_of (four_put HK.out (.int .i64 1) (.func (.func 99) #[] #[]) (.func (.func 100) #[] #[]) (.func (.func 101) #[] #[]))
   simp only [set4] at q0 q1 q2 q3
   simp [results, Tryz.results41, go_sem, q0, q1, q2, q3, foC]
 ·rw [hI]
  obtain ⟨-, ⟨s0, s1, s2, s3⟩, -⟩ := k34.all
  simp [foC] at s0 s1 s2 s3
  clear hI k34
  go_wp2
  refine bodyPost_ret (v := .tuple #[.agg (foC 1).toArray, .bool true]) ?_ ?_ ?_
  rotate_left
  ·rfl
  ·exact ⟨rfl, fin.out _ _ _ _⟩
  ·obtain ⟨q0, q1, q2, q3⟩ := four_of (four_put HK.out (.int .i64 2) (.func (.func 102) #[] #[]) (.func (.func 103) #[] #[]) (.func (.func 104) #[] #[]))
   simp only [set4] at q0 q1 q2 q3
   simp [results, Tryz.results41, go_sem, q0, q1, q2, q3, foC]
 ·rw [hI]
  obtain ⟨-, -, s0, s1, s2, s3⟩ := k34.all
  simp [foC] at s0 s1 s2 s3
  clear hI k34
  go_wp2
  refine bodyPost_ret (v := .tuple #[.agg (foC 2).toArray, .bool true]) ?_ ?_ ?_
  rotate_left
  ·rfl
  ·exact ⟨rfl, fin.out _ _ _ _⟩
  ·obtain ⟨q0, q1, q2, q3⟩ := four_of (four_put HK.out (.int .i64 3) (.func (.func 105) #[] #[]) (.func (.func 106) #[] #[]) (.func (.func 107) #[] #[]))
   simp only [set4] at q0 q1 q2 q3
   simp [results, Tryz.results41, go_sem, q0, q1, q2, q3, foC]
end Go.Proofs.YtmlmdidaldcoiaaGreatDoor
