/- The serialisation with a number, or none. -/
import Derived.Test.YtdppdonaojdceaaGreatDoorMfa
import Derived.Laws.EntriesVeiled
namespace Go.Proofs.YtdppdonaojdceaaGreatDoor
open Go Go.ChangeShapes Go.WideShapes Go.ChangeAt Go.RowKit
set_option linter.unusedVariables false
set_option linter.unusedSimpArgs false

section
variable {w : World} {g : Nat} {T : Nat} {a b c d : Value}
theorem four_of (h : w.heap[g]? = some (.cells #[a, b, c, d] T (0, 0))) : w.cell? ⟨g, 0, none⟩ = some a ∧ w.cell? ⟨g, 1, none⟩ = some b ∧ w.cell? ⟨g, 2, none⟩ = some c ∧ w.cell? ⟨g, 3, none⟩ = some d := by
 simp [World.cell?, h]
theorem free_four (h : w.heap[g]? = some (.cells #[a, b, c, d] T (0, 0))) : w.frozen? ⟨g, 0, none⟩ = false ∧ w.frozen? ⟨g, 1, none⟩ = false ∧ w.frozen? ⟨g, 2, none⟩ = false ∧ w.frozen? ⟨g, 3, none⟩ = false := by
 simp [World.frozen?, h]
def set4 (w : World) (g : Nat) (a b c d : Value) : World := (((w.setCell ⟨g, 0, none⟩ a).setCell ⟨g, 1, none⟩ b).setCell ⟨g, 2, none⟩ c).setCell ⟨g, 3, none⟩ d
theorem four_put (h : w.heap[g]? = some (.cells #[a, b, c, d] T (0, 0))) (a' b' c' d' : Value) : (set4 w g a' b' c' d').heap[g]? = some (.cells #[a', b', c', d'] T (0, 0)) := by
 have h0 : (w.setCell ⟨g, 0, none⟩ a').heap[g]? = some (.cells #[a', b, c, d] T (0, 0)) := heap_set h a'
 have h1 : ((w.setCell ⟨g, 0, none⟩ a').setCell ⟨g, 1, none⟩ b').heap[g]? = some (.cells #[a', b', c, d] T (0, 0)) := heap_set h0 b'
 have h2 : (((w.setCell ⟨g, 0, none⟩ a').setCell ⟨g, 1, none⟩ b').setCell ⟨g, 2, none⟩ c').heap[g]? = some (.cells #[a', b', c', d] T (0, 0)) := heap_set h1 c'
 exact heap_set h2 d'
theorem grown_set4 (w : World) (g : Nat) (a b c d : Value) : w.grownBy (set4 w g a b c d) (some g) :=
 gtrans (gtrans (gtrans (grown_set w g 0 a) (grown_set _ g 1 b)) (grown_set _ g 2 c)) (grown_set _ g 3 d)
end
theorem FoAt.all {w : World} {g : Nat} (h : FoAt w g) : (w.cell? ⟨g, 0, none⟩ = (foC 0)[0]? ∧ w.cell? ⟨g, 1, none⟩ = (foC 0)[1]? ∧ w.cell? ⟨g, 2, none⟩ = (foC 0)[2]? ∧ w.cell? ⟨g, 3, none⟩ = (foC 0)[3]?) ∧ (w.cell? ⟨g, 4, none⟩ = (foC 1)[0]? ∧ w.cell? ⟨g, 5, none⟩ = (foC 1)[1]? ∧ w.cell? ⟨g, 6, none⟩ = (foC 1)[2]? ∧ w.cell? ⟨g, 7, none⟩ = (foC 1)[3]?) ∧ (w.cell? ⟨g, 8, none⟩ = (foC 2)[0]? ∧ w.cell? ⟨g, 9, none⟩ = (foC 2)[1]? ∧ w.cell? ⟨g, 10, none⟩ = (foC 2)[2]? ∧ w.cell? ⟨g, 11, none⟩ = (foC 2)[3]?) :=
 ⟨⟨h.at 0 0 (by decide) (by decide), h.at 0 1 (by decide) (by decide), h.at 0 2 (by decide) (by decide), h.at 0 3 (by decide) (by decide)⟩, ⟨h.at 1 0 (by decide) (by decide), h.at 1 1 (by decide) (by decide), h.at 1 2 (by decide) (by decide), h.at 1 3 (by decide) (by decide)⟩, ⟨h.at 2 0 (by decide) (by decide), h.at 2 1 (by decide) (by decide), h.at 2 2 (by decide) (by decide), h.at 2 3 (by decide) (by decide)⟩⟩
/-- Whether there is one. -/
def foB (k : Int) : Bool := if k = 1 then true else if k = 2 then true else if k = 3 then true else false
theorem foof_none {k : Int} (h : k < 1 ∨ 3 < k) : foR k = [.int .i64 0, .nilFunc, .nilFunc, .nilFunc] ∧ foB k = false := by
 unfold foR foB
 exact ⟨by rw [if_neg (by omega), if_neg (by omega), if_neg (by omega)], by rw [if_neg (by omega), if_neg (by omega), if_neg (by omega)]⟩
set_option maxHeartbeats 3200000 in
set_option maxRecDepth 100000 in
theorem foof_any (k : Int) (w : World) : Calls Tryz.prog 20 #[.int .i64 k] w fun e w' => e = .returned (.tuple #[.agg (foR k).toArray, .bool (foB k)]) ∧ Below w.heap.size w w' := by
 have SE := Lib.hid (fun wx : World => serials_any wx)
 have IX := Lib.hid (fun (g b : Nat) (wx : World) (h : FoAt wx g) (hc : wx.cell? ⟨b, 0, none⟩ = some (.int .i64 k)) (hb : b < wx.heap.size) => foix_any k g b wx h hc hb)
 have b1 := (Below.refl w.heap.size w).alloc (o := .cells #[.int .i64 k] 3) (Nat.le_refl _)
 have k1 := heap_alloc_new w (.cells #[.int .i64 k] 3)
 have z1 : (w.alloc (.cells #[.int .i64 k] 3)).heap.size = w.heap.size + 1 := by simp
 go_enter Tryz.func20, Tryz.ntmps20
 go_upto_region 1 with fail
 generalize w.alloc _ = w1 at b1 k1 z1 ⊢
 have b2 := (Below.refl w1.heap.size w1).alloc (o := .cells #[.int .i64 0, .nilFunc, .nilFunc, .nilFunc] 49) (Nat.le_refl _)
 have k2 := heap_alloc_new w1 (.cells #[.int .i64 0, .nilFunc, .nilFunc, .nilFunc] 49)
 rw [z1] at k2
 generalize w1.alloc _ = w2 at b2 k2 ⊢
 have hs1 := lt_of_block k1
 have hB2 : Below w.heap.size w w2 := b1.trans (b2.mono b1.size)
 have hk2 := (b2.block _ hs1).trans k1
 clear b1 k1 z1 b2 hs1
 go_upto_region 2 with (go_at_call 24; (with_reducible refine (SE.out _).mono ?_); rintro e w3 ⟨rfl, rfl⟩)
 have b3 := (Below.refl w2.heap.size w2).alloc (o := .cells foAll.toArray 49) (Nat.le_refl _)
 have k3 := heap_alloc_new w2 (.cells foAll.toArray 49)
 generalize w2.alloc _ = w3 at b3 k3 ⊢
 have hl1 := lt_of_block hk2
 have hl2 := lt_of_block k2
 have q1 : w3.cell? ⟨w.heap.size, 0, none⟩ = some (.int .i64 k) := cell_blk ((b3.block _ hl1).trans hk2) (j := 0) rfl
 have IX3 := Lib.hid (IX.out w2.heap.size w.heap.size w3 k3 q1 (Nat.lt_of_lt_of_le hl1 b3.size))
 have hB3 := hB2.trans (b3.mono hB2.size)
 have k23 := (b3.block _ hl2).trans k2
 clear IX SE q1 b3 hk2 hB2 hl1
 go_upto_region 3 with (go_at_call 34; (with_reducible refine (IX3.out).mono ?_); rintro e w4 ⟨rfl, hb4⟩)
 have k24 := (hb4.block _ (lt_of_block k23)).trans k23
 have k34 : FoAt w4 w2.heap.size := (hb4.block _ (lt_of_block k3)).trans k3
 have HB := Lib.hid (hB3.trans (hb4.mono hB3.size))
 have HK := Lib.hid k24
 have f1 := free_four k24
 have c1 := four_of k24
 generalize w2.heap.size = gt at k34 ⊢
 clear k3 k23 k2 hl2 hB3 hb4 IX3 k24
 have fin : Hid (∀ a b c d : Value, Below w.heap.size w (set4 w4 (w.heap.size + 1) a b c d)) := Lib.hid fun a b c d => HB.out.grown (grown_set4 w4 (w.heap.size + 1) a b c d) HB.out.size (fun k hk => by cases hk; exact Nat.le_succ _)
 generalize w.heap.size + 1 = g2 at HK f1 c1 fin ⊢
 rcases foI_cases k with ⟨rfl, hI⟩ | ⟨rfl, hI⟩ | ⟨rfl, hI⟩ | ⟨hk, hI⟩
 rotate_right
 ·rw [hI]
  have HF := Lib.hid (foof_none hk)
  clear hI hk k34
  go_wp2
  refine bodyPost_ret (v := .tuple #[.agg #[.int .i64 0, .nilFunc, .nilFunc, .nilFunc], .bool false]) ?_ ?_ ?_
  rotate_left
  ·rfl
  ·exact ⟨by rw [HF.out.1, HF.out.2], fin.out _ _ _ _⟩
  ·obtain ⟨q0, q1, q2, q3⟩ := four_of (four_put HK.out (.int .i64 0) .nilFunc .nilFunc .nilFunc)
   simp only [set4] at q0 q1 q2 q3
   simp [results, Tryz.results20, go_sem, q0, q1, q2, q3]
 ·rw [hI]
  obtain ⟨⟨s0, s1, s2, s3⟩, -, -⟩ := k34.all
  simp [foC] at s0 s1 s2 s3
  clear hI k34
  go_wp2
  refine bodyPost_ret (v := .tuple #[.agg (foC 0).toArray, .bool true]) ?_ ?_ ?_
  rotate_left
  ·rfl
  ·exact ⟨rfl, fin.out _ _ _ _⟩
  ·obtain ⟨q0, q1, q2, q3⟩ := four_of (four_put HK.out (.int .i64 1) (.func (.func 39) #[] #[]) (.func (.func 40) #[] #[]) (.func (.func 41) #[] #[]))
   simp only [set4] at q0 q1 q2 q3
   simp [results, Tryz.results20, go_sem, q0, q1, q2, q3, foC]
 ·rw [hI]
  obtain ⟨-, ⟨s0, s1, s2, s3⟩, -⟩ := k34.all
  simp [foC] at s0 s1 s2 s3
  clear hI k34
  go_wp2
  refine bodyPost_ret (v := .tuple #[.agg (foC 1).toArray, .bool true]) ?_ ?_ ?_
  rotate_left
  ·rfl
  ·exact ⟨rfl, fin.out _ _ _ _⟩
  ·obtain ⟨q0, q1, q2, q3⟩ := four_of (four_put HK.out (.int .i64 2) (.func (.func 42) #[] #[]) (.func (.func 43) #[] #[]) (.func (.func 44) #[] #[]))
   simp only [set4] at q0 q1 q2 q3
   simp [results, Tryz.results20, go_sem, q0, q1, q2, q3, foC]
 ·rw [hI]
  obtain ⟨-, -, s0, s1, s2, s3⟩ := k34.all
  simp [foC] at s0 s1 s2 s3
  clear hI k34
  go_wp2
  refine bodyPost_ret (v := .tuple #[.agg (foC 2).toArray, .bool true]) ?_ ?_ ?_
  rotate_left
  ·rfl
  ·exact ⟨rfl, fin.out _ _ _ _⟩
  ·obtain ⟨q0, q1, q2, q3⟩ := four_of (four_put HK.out (.int .i64 3) (.func (.func 18) #[] #[]) (.func (.func 45) #[] #[]) (.func (.func 46) #[] #[]))
   simp only [set4] at q0 q1 q2 q3
   simp [results, Tryz.results20, go_sem, q0, q1, q2, q3, foC]
end Go.Proofs.YtdppdonaojdceaaGreatDoor
