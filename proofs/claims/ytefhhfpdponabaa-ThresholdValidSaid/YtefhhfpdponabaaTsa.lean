/- Helpers of the laws of threshold: rows of fractions, appended; fractions compared. -/
import Derived.Laws.StructEq
import Derived.Test.YtefhhfpdponabaaTst
namespace Go.Proofs.Ytefhhfpdponabaa
open Go Go.ChangeShapes Go.WideShapes Go.ChangeAt Go.RowKit
set_option linter.unusedVariables false
set_option linter.unusedSimpArgs false

theorem own_store {w : World} {base e size n g cap : Nat} {xs : List Value} (h : w.ownsRow base e size (.slice (some ⟨g, 0, none⟩) n cap) n xs) (j : Nat) (v : Value) : (w.setCell ⟨g, j, none⟩ v).ownsRow base e size (.slice (some ⟨g, 0, none⟩) n cap) n (xs.set j v) := by
  obtain ⟨hl, ⟨h0, _⟩ | ⟨g', cap', cur, hv, hg, hh, hn', hm, hs, ht⟩⟩ := h
  · cases h0
  · cases hv
    refine ⟨by simpa using hl, .inr ⟨g, cap, cur.setIfInBounds j v, rfl, hg, ?_, hn', hm, by simpa using hs, ?_⟩⟩
    · rw [heap_setCell_same w g j _ _ v hh]
    · rw [Array.toList_setIfInBounds, List.take_set, ht]
theorem wt_one (d : Nat) (h1 : 1 ≤ d) (h2 : d ≤ 100) : wtB (1, (d : Int)) = true := by
  rw [wtB_iff]
  refine ⟨by show (1 : Int) ≤ (d : Int); omega, by show (d : Int) ≤ 100; omega, by show (0 : Int) ≤ 1; omega, by show (1 : Int) ≤ (d : Int); omega, ?_⟩
  show Nat.gcd 1 (d : Int).toNat = 1
  rw [Int.toNat_natCast]
  exact Nat.gcd_one_left d
theorem frs_nil (B : Nat) (w : World) : FrsAt B w (.slice none 0 0) [] := ⟨none, 0, rfl, Nat.le_refl _, Nat.zero_le _, (fun f hf => absurd hf List.not_mem_nil), (fun i f e => by cases e)⟩
theorem row_own {w : World} {base n g cap : Nat} {e : TypeId} {xs : List Value} (h : w.ownsRow base e 2 (.slice (some ⟨g, 0, none⟩) n cap) n xs) : base ≤ g ∧ n ≤ cap ∧ cap ≤ maxLen ∧ Row w g e (cap * 2) xs := by
  obtain ⟨hl, ⟨h0, _⟩ | ⟨g', cap', cur, hv, hg, hh, hn', hm, hs, ht⟩⟩ := h
  · cases h0
  · cases hv; exact ⟨hg, hn', hm, cur, (0, 0), hh, by omega, by omega, by rw [hl, ht], .inl rfl⟩
theorem cellsF_append (a b : List FR) : cellsF (a ++ b) = cellsF a ++ cellsF b := by simp [cellsF]
theorem cells_row {w : World} {g T C : Nat} {l : List FR} (h : Row w g T C (cellsF l)) (m : Nat) (hm : m ≤ l.length) : ∀ j u, (cellsF (l.drop m))[j]? = some u → w.cell? ((⟨g, m * 2, none⟩ : Addr).add j) = some u := fun j u e => by
  rw [show ((⟨g, m * 2, none⟩ : Addr).add j) = ⟨g, m * 2 + j, none⟩ by by_cases h0 : j = 0 <;> simp [Addr.add, h0]]
  refine h.cellAt (j := m * 2 + j) ?_
  rw [← List.take_append_drop m l, cellsF_append, List.getElem?_append_right (by rw [cellsF_length, List.length_take]; omega), cellsF_length, List.length_take, Nat.min_eq_left hm, Nat.add_sub_cancel_left]
  exact e
theorem cells_row0 {w : World} {g T C : Nat} {l : List FR} (h : Row w g T C (cellsF l)) (m : Nat) : ∀ j u, (cellsF (l.take m))[j]? = some u → w.cell? ((⟨g, 0, none⟩ : Addr).add j) = some u := fun j u e => by
  rw [show ((⟨g, 0, none⟩ : Addr).add j) = ⟨g, j, none⟩ by by_cases h0 : j = 0 <;> simp [Addr.add, h0]]
  refine h.cellAt ?_
  have hj : j < (cellsF (l.take m)).length := (List.getElem?_eq_some_iff.1 e).1
  rw [← List.take_append_drop m l, cellsF_append, List.getElem?_append_left hj]
  exact e
theorem frs_owns {w : World} {base T n : Nat} {v : Value} (l : List FR) (h : w.ownsRow base T 2 v n (cellsF l)) (hw : ∀ f ∈ l, wtB f = true) : FrsAt w.heap.size w v l := by
  have hl := h.1
  rw [cellsF_length] at hl
  have hn : l.length = n := by omega
  rcases h.2 with ⟨rfl, h0⟩ | ⟨g, cap, cur, rfl, -⟩
  · obtain rfl : l = [] := List.eq_nil_of_length_eq_zero (by omega)
    exact frs_nil _ _
  · obtain ⟨_, h1, h2, hr⟩ := row_own h
    have := frs_row (cap := cap) hr hr.lt (by omega) h2 hw
    rwa [hn] at this
theorem tsum_ok (v : Value) (l : List FR) (w : World) (hv : FrsAt w.heap.size w v l) (h : wts l) : Calls Try.prog 19 #[v] w fun e w' => e = .returned (.tuple #[.agg #[.int .i64 ((sumF l).1 : Nat), .int .i64 ((sumF l).2 : Nat)], .int .i64 0]) ∧ Below w.heap.size w w' := by
  have hE := (sumE_ok l).2 h
  have hR : sumR l = sumF l := by unfold sumR; rw [if_pos hE]
  have T := tsum_any w.heap.size v l w hv (Nat.le_refl _)
  rw [hE, hR] at T
  exact T
theorem FrsAt.take {B : Nat} {w : World} {ao : Option Addr} {n cap : Nat} {l : List FR} (h : FrsAt B w (.slice ao n cap) l) (m : Nat) (hm : m ≤ l.length) : FrsAt B w (.slice ao m cap) (l.take m) := by
  obtain ⟨ao', cap', e, h2, h3, h4, h5⟩ := h
  cases e
  have hl : (l.take m).length = m := by rw [List.length_take]; omega
  refine ⟨ao, cap, by rw [hl], by omega, h3, fun f hf => h4 f (List.mem_of_mem_take hf), fun i f e => ?_⟩
  have hi : i < m := by
    rcases Nat.lt_or_ge i m with h | h
    · exact h
    · rw [List.getElem?_eq_none (by omega)] at e; cases e
  rw [List.getElem?_take, if_pos hi] at e
  exact h5 i f e
theorem frac_guard (w : World) (op : BinOp) (x y : Operand) (xs ys : Array Value) : (eqGuard op 39 x y (.agg xs) (.agg ys)).run Try.prog w = .ok () w := run_eqGuard_agg w op _ x y xs ys (by kernel_rfl)
theorem frac_neq (w : World) (a b c d : Int) : (binOp .neq 39 (.agg #[.int .i64 a, .int .i64 b]) (.agg #[.int .i64 c, .int .i64 d])).run Try.prog w = .ok (.bool (!(a == c && b == d))) w := by
  have hs : Try.prog.underlying 39 = some (.struct (Try.prog.fieldsOf 39)) := by kernel_rfl
  have hh : Try.prog.stoodInHeld 39 = false := by kernel_rfl
  rw [run_neq_struct, run_equalIn_agg w 9999 _ _ _ hs hh]
  have hf : (Try.prog.fieldsOf 39).toList = [(Try.prog.fieldsOf 39)[0]!, (Try.prog.fieldsOf 39)[1]!] := by kernel_rfl
  rw [hf]
  have u0 := Try.underlying3
  simp [Op.eqFields, go_sem, u0]
  by_cases h1 : a = c <;> by_cases h2 : b = d <;> simp [h1, h2]
theorem frac_neq_same (w : World) (a b : Int) : (binOp .neq 39 (.agg #[.int .i64 a, .int .i64 b]) (.agg #[.int .i64 a, .int .i64 b])).run Try.prog w = .ok (.bool false) w := by
  rw [frac_neq]; simp
theorem run_append_nils (w : World) (ty : TypeId) : (Builtin.append_ #[26, 26] ty #[.slice none 0 0, .slice none 0 0]).run Try.prog w = .ok (.slice none 0 0) w := by
  obtain ⟨i0, hi, -, -, -⟩ := info_parts Try.infoF
  have ht := Try.underlying26
  simp [Builtin.append_, run_underlying ht, sizeOf, typeInfo, hi, Builtin.lenOf, Builtin.firstCells, loadCells, loadCellsFrom]
section
variable {P : Program} {Q : Exit → Act → World → Prop} {S : World → Prop} {hs : List Nat} {l : List Oper}
/-- What is not wanted is passed over. -/
theorem take_skip {b : Bool} {k : Nat} {p : Plan} {a : Act} {w : World} (o : Oper) (ho : l[k]? = some o) (hw : Region.wanted o (yielded l.toArray a.tmps) = false)
    (h : ∀ K' : Act → Prop, (∀ a, wpPlan P l.toArray Q S hs true p a w → K' a) → K' (a.put o.dst undef)) : wpPlan P l.toArray Q S hs b (.take k p) a w := by
  have : wpPlan P l.toArray Q S hs true (.take k p) a w := ⟨o, undef, by simpa using ho, .inr ⟨hw, rfl⟩, h _ fun _ h => h⟩
  cases b <;> exact this
end
end Go.Proofs.Ytefhhfpdponabaa
