/- Pad of both sides, the sanity check of the statements of hash, strings of zeros. -/
import Derived.Test.YtgoecmpbobablaaDoorHrefd
namespace Go.Proofs.YtgoecmpbobablaaDoor
open Go.ChangeShapes Go.WideShapes Go.ChangeAt Go.RowKit
set_option linter.unusedVariables false
set_option linter.unusedSimpArgs false

/-- What Pad returns. -/
def padV (s : ByteArray) : Value := if s.size ≤ 1048576 then .tuple #[.string ⟨(padL s.data.toList s.size).toArray⟩, .int .i64 0] else .tuple #[.string ⟨#[]⟩, .int .i64 3]


/-- 'string(make([]byte, n))'. -/
theorem zeros_string {w1 : World} {B N : Nat} {v : Value} (h : w1.ownsRow B 5 1 v N (madeCells (Value.int .u8 0).cells (N * 1)).toList) : (convert 36 9 v).run Tryd.prog w1 = .ok (.string ⟨(List.replicate N (0 : UInt8)).toArray⟩) w1 := by
  rw [show (Value.int .u8 0).cells = #[.int .u8 0] from rfl, toList_madeCells_one, Nat.mul_one] at h
  exact conv_owns (P := Tryd.prog) w1 36 9 5 B N v (List.replicate N 0) (by simpa using h) Tryd.underlying36 Tryd.underlying5 Tryd.underlying9
theorem zeros_size (N : Nat) : (⟨(List.replicate N (0 : UInt8)).toArray⟩ : ByteArray).size = N := by show (List.replicate N (0 : UInt8)).toArray.size = N; simp

end Go.Proofs.YtgoecmpbobablaaDoor
