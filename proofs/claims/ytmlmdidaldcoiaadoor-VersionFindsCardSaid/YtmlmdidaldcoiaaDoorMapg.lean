/- Maps that a call makes: a literal's entries, what stands at a key. No program. -/
import Derived.Maps.OwnSet
import Derived.Maps.Own
import Derived.Maps.OwnOps
import Derived.Maps.StringElems
import Derived.Test.YtmlmdidaldcoiaaDoorPkit
namespace Go.Proofs.YtmlmdidaldcoiaaDoor
open Go Go.Maps Go.ChangeShapes Go.WideShapes Go.ChangeAt Go.RowKit
set_option linter.unusedVariables false
set_option linter.unusedSimpArgs false

/-- A literal's entry is laid into a map that the call makes. -/
theorem wpList_insert_own {H : Type} {P : Program} (w : World) {ops : Array Oper} {rest : List Oper} {o : Oper} {a : Act} {Q : Exit → Act → World → Prop}
    (hg : o.guard = none) (m x v : Operand) (t : TypeId) (hop : o.op = Op.insert t m x v)
    (k e : TypeId) (K : Keyed P k) (ht : P.underlying t = some (.map k e)) (R : Value → Option (DataW H × List MemPlace)) (b n : Nat) (D : DataW H)
    (hm : a.eval m = .map (some b)) (hown : w.ownsMap P k R b n D) (hn : n < maxLen) (key val : Value) (kl : Lit) (hx : a.eval x = key) (hv : a.eval v = val) (hkey : keyOf P k key = some kl)
    (d : DataW H) (ps : List MemPlace) (hval : R val = some (d, ps))
    (hK : ∀ w', w'.ownsMap P k R b (n + 1) (D.put kl d) → w.grownBy w' (some b) → wpList P ops Q rest (a.put o.dst undef) w') :
    wpList P ops Q (o :: rest) a w := by
  refine wpList_plain hg fun K' hK' => ?_
  obtain ⟨w', hrun, r1, r2⟩ := hown.update K ht hn hkey hval
  unfold Oper.wp
  simp [execOp, hop, hm, hx, hv, hrun, Result.andThen]
  exact hK' _ _ (hK w' r1 r2)
theorem putZ_has {D : DataW Unit} (hD : IsMap D) (q : IntKind) (c l : Int) (d : DataW Unit) : Maps.has (D.put (.int q c) d) (.int q l) = (decide (l = c) || Maps.has D (.int q l)) := by
  by_cases h : l = c
  · subst h; rw [has_put_same hD (show WideAt.IsKeyLit (.int q l) from trivial), decide_eq_true rfl]; rfl
  · rw [has_put_other (by intro e; cases e; exact h rfl), decide_eq_false h]; rfl
theorem putZ_at {D : DataW Unit} (hD : IsMap D) (q : IntKind) (c l : Int) (d z : DataW Unit) : (D.put (.int q c) d).atKey (.int q l) z = if l = c then d else D.atKey (.int q l) z := by
  by_cases h : l = c
  · subst h; rw [atKey_put_same hD (show WideAt.IsKeyLit (.int q l) from trivial), if_pos rfl]
  · rw [atKey_put_other (by intro e; cases e; exact h rfl), if_neg h]
theorem putS_has {D : DataW Unit} (hD : IsMap D) (c l : List UInt8) (d : DataW Unit) : Maps.has (D.put (.string c) d) (.string l) = (decide (l = c) || Maps.has D (.string l)) := by
  by_cases h : l = c
  · subst h; rw [has_put_same hD (show WideAt.IsKeyLit (.string l) from trivial), decide_eq_true rfl]; rfl
  · rw [has_put_other (by intro e; cases e; exact h rfl), decide_eq_false h]; rfl
theorem putS_at {D : DataW Unit} (hD : IsMap D) (c l : List UInt8) (d z : DataW Unit) : (D.put (.string c) d).atKey (.string l) z = if l = c then d else D.atKey (.string l) z := by
  by_cases h : l = c
  · subst h; rw [atKey_put_same hD (show WideAt.IsKeyLit (.string l) from trivial), if_pos rfl]
  · rw [atKey_put_other (by intro e; cases e; exact h rfl), if_neg h]
end Go.Proofs.YtmlmdidaldcoiaaDoor
