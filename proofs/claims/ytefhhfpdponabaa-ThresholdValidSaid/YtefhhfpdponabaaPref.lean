/- Contracts of the document's own functions of primitive: Code, Raw, lead, Size. -/
import Derived.Test.YtefhhfpdponabaaRows
import Derived.Test.YtefhhfpdponabaaPrim
import Derived.Test.YtefhhfpdponabaaMem
import Derived.WalkKit
import Derived.ProofKit
import Derived.OpenShut
import Derived.WalkSpells
import Derived.WalkLawsBesides
import Derived.Outline
import Derived.Lib.Hide
import Derived.Deep.QuietTactic
import Derived.BigQuiet
namespace Go.Proofs.Ytefhhfpdponabaa
open Go.ChangeShapes Go.WideShapes Go.ChangeAt Go.RowKit
set_option linter.unusedVariables false
set_option linter.unusedSimpArgs false

/-- What Code returns. -/
def codeV (c : Int) : Value := if 1 ≤ c ∧ c ≤ 8 then .tuple #[.string ⟨(codeL c.toNat).toArray⟩, .bool true] else .tuple #[.string ⟨#[]⟩, .bool false]
def rawI (c : Int) : Int := rawN c.toNat
def leadI (c : Int) : Int := leadN c.toNat
def sizeI (c : Int) : Int := sizeN c.toNat
theorem rawN_out {n : Nat} (h : n = 0 ∨ 8 < n) : rawN n = 0 := by
  unfold rawN; split <;> first | omega | rfl
theorem sizeN_out {n : Nat} (h : n = 0 ∨ 8 < n) : sizeN n = 0 := by
  unfold sizeN; split <;> first | omega | rfl
theorem out_nat {c : Int} (h : c < 1 ∨ 8 < c) : c.toNat = 0 ∨ 8 < c.toNat := by omega
theorem eight_ints {c : Int} (h : 1 ≤ c ∧ c ≤ 8) : c = 1 ∨ c = 2 ∨ c = 3 ∨ c = 4 ∨ c = 5 ∨ c = 6 ∨ c = 7 ∨ c = 8 := by omega




end Go.Proofs.Ytefhhfpdponabaa
