/- Contracts of the program's own Encode, Make, Binary, Text of primitive. -/
import Derived.Test.YtefhhfpdponabaaQlay
import Derived.Test.YtefhhfpdponabaaPopn
import Derived.Test.YtefhhfpdponabaaBasg
namespace Go.Proofs.Ytefhhfpdponabaa
open Go.ChangeShapes Go.WideShapes Go.ChangeAt Go.RowKit
set_option linter.unusedVariables false
set_option linter.unusedSimpArgs false

theorem three_keep {w w' : World} {g h B : Nat} {u v x : Value} (hb : Below B w w') (hg : g < B) (hh : h < B) (s : w.cell? ⟨g, 1, none⟩ = some u ∧ w.cell? ⟨h, 0, none⟩ = some v ∧ w.cell? ⟨h, 1, none⟩ = some x) : w'.cell? ⟨g, 1, none⟩ = some u ∧ w'.cell? ⟨h, 0, none⟩ = some v ∧ w'.cell? ⟨h, 1, none⟩ = some x :=
  ⟨by rw [hb.cell (p := ⟨g, 1, none⟩) hg]; exact s.1, by rw [hb.cell (p := ⟨h, 0, none⟩) hh]; exact s.2.1, by rw [hb.cell (p := ⟨h, 1, none⟩) hh]; exact s.2.2⟩




end Go.Proofs.Ytefhhfpdponabaa
