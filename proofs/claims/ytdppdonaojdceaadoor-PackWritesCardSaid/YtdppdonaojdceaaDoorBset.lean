/- A set of strings that the call makes: a map of bools, filled with true, asked by m[s]. For every program. -/
import Derived.Maps.OwnSet
import Derived.Maps.Own
import Derived.Maps.OwnOps
import Derived.Test.YtdppdonaojdceaaDoorNdata
namespace Go.Proofs.YtdppdonaojdceaaDoor
open Go Go.Maps Go.RowKit
set_option linter.unusedVariables false
set_option linter.unusedSimpArgs false

def inB (s : ByteArray) (ns : List ByteArray) : Bool := ns.any fun t => decide (s = t)
theorem inB_iff (s : ByteArray) (ns : List ByteArray) : inB s ns = true ↔ s ∈ ns := by
  unfold inB
  rw [List.any_eq_true]
  constructor
  · rintro ⟨t, ht, e⟩
    rw [of_decide_eq_true e]; exact ht
  · exact fun h => ⟨s, h, decide_eq_true rfl⟩
def setD : List ByteArray → DataW Unit
  | [] => .map []
  | s :: ns => (setD ns).put (.string s.data.toList) (.lit (.bool true))
theorem setD_isMap : ∀ ns, IsMap (setD ns)
  | [] => isMap_empty
  | _ :: ns => (setD_isMap ns).put _ _
theorem setD_at (s : ByteArray) : ∀ ns, (setD ns).atKey (.string s.data.toList) (.lit (.bool false)) = .lit (.bool (inB s ns))
  | [] => by
    rfl
  | t :: ns => by
    unfold setD
    by_cases h : s = t
    · subst h
      rw [atKey_put_same (setD_isMap ns) (show WideAt.IsKeyLit (.string s.data.toList) from trivial)]
      rw [(inB_iff s (s :: ns)).2 (by simp)]
    · have hne : s.data.toList ≠ t.data.toList := fun e => h (ByteArray.ext (Array.toList_inj.1 e))
      rw [atKey_put_other (by intro e; simp only [Lit.string.injEq] at e; first | exact hne e | exact hne e.symm), setD_at s ns]
      simp [inB, h]
section
variable {P : Program} {t k e : TypeId} {w : World} {b : Nat} {ns : List ByteArray}
/-- Block b is the set of ns. -/
def OwnsSet (P : Program) (k e : TypeId) (w : World) (b : Nat) (ns : List ByteArray) : Prop := w.ownsMap P k (plainElem (H := Unit) P e) b ns.length (setD ns)
theorem plainElem_bool_inv {H : Type} (he : P.underlying e = some .bool) {v : Value} {z : DataW H × List MemPlace} (h : plainElem P e v = some z) : ∃ x, v = .bool x ∧ z = (.lit (.bool x), []) := by
  unfold plainElem at h
  rw [he] at h
  cases v <;> simp at h
  exact ⟨_, rfl, h.symm⟩
theorem OwnsSet.look (h : OwnsSet P k e w b ns) (K : Keyed P k) (ht : P.underlying t = some (.map k e)) (he : P.underlying e = some .bool) (hz : (zeroValue e).run P w = .ok (.bool false) w) (s : ByteArray) (hkey : keyOf P k (.string s) = some (.string s.data.toList)) :
    (Instr.lookup t (.map (some b)) (.string s) false).run P w = .ok (.bool (inB s ns)) w := by
  obtain ⟨v, ps, hrun, hv⟩ := World.ownsMap.lookup h K ht hz (plainElem_bool he false) hkey
  obtain ⟨x, rfl, e'⟩ := plainElem_bool_inv he hv
  rw [setD_at] at e'
  simp only [Prod.mk.injEq, DataW.lit.injEq, Lit.bool.injEq] at e'
  rw [hrun, e'.1]
theorem OwnsSet.kept {w' : World} {row : Option Nat} (h : OwnsSet P k e w b ns) (hg : w.grownBy w' row) (hne : some b ≠ row) : OwnsSet P k e w' b ns := World.ownsMap.kept h hg hne
theorem OwnsSet.lt (h : OwnsSet P k e w b ns) : b < w.heap.size := World.ownsMap.lt h
theorem OwnsSet.below {w' : World} (h : OwnsSet P k e w b ns) (hb : Below w.heap.size w w') : OwnsSet P k e w' b ns :=
  h.kept (row := none) ⟨hb.os, hb.tape, hb.output, hb.size, fun i hi _ => hb.block i hi⟩ (by simp)
theorem OwnsSet.made (w : World) (P : Program) (k e : TypeId) : OwnsSet P k e (w.alloc (.map #[] 0)) w.heap.size [] := World.ownsMap_made w P k _
/-- 's' is put in. -/
theorem OwnsSet.put {w' : World} {s : ByteArray} (h : w'.ownsMap P k (plainElem (H := Unit) P e) b (ns.length + 1) ((setD ns).put (.string s.data.toList) (.lit (.bool true)))) : OwnsSet P k e w' b (s :: ns) := h
end
end Go.Proofs.YtdppdonaojdceaaDoor
