/- Contracts of the small functions of package primitive: layoutOf, lead, size, Code, Raw, Size. The table of layouts must read as the program lays it. -/
import Derived.Test.YtefhhfpdponabaaPdec
namespace Go.Proofs.Ytefhhfpdponabaa
open Go.ChangeShapes Go.WideShapes Go.ChangeAt Go.RowKit
set_option linter.unusedVariables false
set_option linter.unusedSimpArgs false



theorem w64 (n : Int) (h : -9223372036854775808 ≤ n ∧ n ≤ 9223372036854775807) : IntKind.i64.wrap n = n := by rw [IntKind.wrap_i64]; omega
theorem size_wraps (k l b a : Nat) (hk : k ≤ 4) (hl : l ≤ 2) (hb : b ≤ 1000) (h : (k : Int) + ((l : Int) + (b : Int)) / 3 * 4 - (l : Int) = (a : Int)) :
    IntKind.i64.wrap (IntKind.i64.wrap ((k : Int) + IntKind.i64.wrap (IntKind.i64.wrap ((IntKind.i64.wrap ((l : Int) + (b : Int))).tdiv 3) * 4)) - (l : Int)) = (a : Int) := by
  rw [w64 ((l : Int) + (b : Int)) (by omega), Int.tdiv_eq_ediv_of_nonneg (by omega), w64 (((l : Int) + (b : Int)) / 3) (by omega), w64 (((l : Int) + (b : Int)) / 3 * 4) (by omega), w64 ((k : Int) + ((l : Int) + (b : Int)) / 3 * 4) (by omega), w64 _ (by omega)]
  exact h


end Go.Proofs.Ytefhhfpdponabaa
