/- A region that draws its order, whose first n operations yield the same value in whatever world, and whose others stand in one forced order behind them: it is enough to walk it in the order of the text. For every program. -/
import Derived.StillTailTactics
import Derived.WalkKit
namespace Go.Proofs.Ytefhhfpdponabaa
open Go
set_option linter.unusedVariables false
set_option linter.unusedSimpArgs false

section
variable {P : Program} {ops : Array Oper} {md : Region.Mode} {Q : Exit → Act → World → Prop}

/-- The walk of operations that yield the same value in whatever world. -/
def wpSteady (P : Program) (ops : Array Oper) (K : Act → Prop) : List Oper → Act → Prop
  | [], a => K a
  | o :: rest, a => ∃ v, Yields P ops o v a ∧ wpSteady P ops K rest (a.put o.dst v)

theorem steady_nil {K : Act → Prop} {a : Act} (h : K a) : wpSteady P ops K [] a := h
theorem steady_step {K : Act → Prop} {a : Act} {o : Oper} {rest : List Oper} (v : Value) (hw : Region.wanted o (yielded ops a.tmps) = true)
    (hv : ∀ w, (execOp a.eval o).run P w = .ok (.value v) w) (h : ∀ K' : Act → Prop, (∀ a, wpSteady P ops K rest a → K' a) → K' (a.put o.dst v)) : wpSteady P ops K (o :: rest) a :=
  ⟨v, .inl ⟨hw, hv⟩, h _ fun _ h => h⟩

theorem steady_any (hs : Region.noSelect ops = true) (hQ : ∀ c d v a w, Q (.panic c) (Act.put a d v) w → Q (.panic c) a w) {w : World} {g : Nat} {K : Act → Prop} :
    ∀ (l : List Oper) (k : Nat) (listed : Array Bool) (a : Act), (∀ j, j < l.length → l[j]? = ops[k + j]?) →
      Region.lexHead md ops g l.length k listed = true → (∀ listed a, Region.seqB md ops g (k + l.length) listed = true → K a → wpAny P md ops Q g listed a w) →
      wpSteady P ops K l a → wpAny P md ops Q (l.length + g) listed a w
  | [], k, listed, a, _, hB, hK, h => by
    simp only [List.length_nil, Nat.zero_add]
    exact hK _ _ (by simpa [Region.lexHead] using hB) h
  | o :: l, k, listed, a, hl, hB, hK, h => by
    have h0 : ops[k]? = some o := by simpa using (hl 0 (by simp)).symm
    simp only [List.length_cons, Region.lexHead, Bool.and_eq_true] at hB
    obtain ⟨⟨hr, hf⟩, hB'⟩ := hB
    obtain ⟨v, hy, h'⟩ := h
    have := steady_any hs hQ (w := w) l (k + 1) (listed.setIfInBounds k true) (a.put o.dst v)
      (fun j hj => by have := hl (j + 1) (by simp; omega); simpa [Nat.add_assoc, Nat.add_comm 1 j] using this) hB'
      (fun listed a hs hk => hK listed a (by rw [List.length_cons, show k + (l.length + 1) = k + 1 + l.length by omega]; exact hs) hk) h'
    rw [List.length_cons, show l.length + 1 + g = (l.length + g) + 1 by omega]
    exact wpAny_take h0 hs hf hr (fun c a w h => hQ c _ _ a w h) hy this

/-- THE REGION IN THE ORDER OF THE TEXT. -/
theorem wp_region_steady {id : Nat} {a : Act} {w : World} {l : List Oper} (n : Nat) (hm : P.follows .mixedOrders = true)
    (hB : (Region.noSelect l.toArray && decide (n ≤ l.length) && Region.lexHead .any l.toArray (l.toArray.size - n) n 0 (Array.replicate l.toArray.size false)) = true)
    (hQ : ∀ c d v a w, Q (.panic c) (Act.put a d v) w → Q (.panic c) a w)
    (h : wpSteady P l.toArray (fun a' => wpList P l.toArray Q (l.drop n) a' w.drew) (l.take n) a) : (Code.region id l.toArray true).wp P Q a w := by
  simp only [Bool.and_eq_true, decide_eq_true_eq] at hB
  obtain ⟨⟨hs, hn⟩, hlex⟩ := hB
  have htl : (l.take n).length = n := by simp; omega
  have hdl : (l.drop n).length = l.toArray.size - n := by simp
  refine wp_region_any hm ?_
  have H := steady_any (md := .any) (Q := Q) hs hQ (w := w.drew) (g := l.toArray.size - n) (l.take n) 0 (Array.replicate l.toArray.size false) a
    (fun j hj => by
      have hj' : j < n := by rw [htl] at hj; exact hj
      simp [hj']) (by rw [htl]; exact hlex)
    (fun listed a' hseq hk => by
      have := wpAny_of_seq (md := .any) (Q' := Q) (l.drop n) n listed a' w.drew (fun j => by simp [List.getElem?_drop]) (by rw [hdl]; rw [htl, Nat.zero_add] at hseq; exact hseq) hk
      rwa [hdl] at this) h
  rw [htl, show n + (l.toArray.size - n) = l.toArray.size by simp; omega] at H
  exact H
end
end Go.Proofs.Ytefhhfpdponabaa
