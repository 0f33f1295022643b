/- The kit's Map: some map that is valid. -/
import Derived.Test.YtpjabbhhepdkfaaGreatDoorNst
import Derived.Test.YtpjabbhhepdkfaaGreatDoorPlan
import Derived.Deep.AppendLies
namespace Go.Proofs.YtpjabbhhepdkfaaGreatDoor
open Go.ChangeShapes Go.WideShapes Go.ChangeAt Go.RowKit
set_option linter.unusedVariables false
set_option linter.unusedSimpArgs false

def mNames : List ByteArray := [⟨#[97]⟩, ⟨#[98]⟩, ⟨#[118]⟩, ⟨#[100]⟩]
theorem mNames_size : ∀ s, s ∈ mNames → s.size ≤ maxLen - 2 := by decide +kernel
theorem mNames_one : ∀ s, s ∈ mNames → s.size ≤ 1 := by decide +kernel
theorem mNames_ok : ∀ s, s ∈ mNames → textOk s = true := by decide +kernel
theorem mNames_nodup : mNames.Nodup := by decide +kernel
theorem infon : ∃ i, Tryz.prog.info? 31 = some i ∧ i.zero = some (.agg #[.int .i64 0, .bool false, .int .i64 0, .string ⟨#[]⟩, .slice none 0 0, .slice none 0 0]) ∧ i.size = 6 ∧ i.bytes = 88 :=
  info_parts (show (Tryz.prog.info? 31).map (fun i => (i.zero, i.size, i.bytes)) = some (some (.agg #[.int .i64 0, .bool false, .int .i64 0, .string ⟨#[]⟩, .slice none 0 0, .slice none 0 0]), 6, 88) by kernel_rfl)
theorem infos : ∃ i, Tryz.prog.info? 9 = some i ∧ i.zero = some (.string ⟨#[]⟩) ∧ i.size = 1 ∧ i.bytes = 16 :=
  info_parts (show (Tryz.prog.info? 9).map (fun i => (i.zero, i.size, i.bytes)) = some (some (.string ⟨#[]⟩), 1, 16) by kernel_rfl)
end Go.Proofs.YtpjabbhhepdkfaaGreatDoor
