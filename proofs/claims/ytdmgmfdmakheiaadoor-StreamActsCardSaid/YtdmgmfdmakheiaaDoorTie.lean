/-
  DERIVED. GIVEN WITH THE SEED: THE PROGRAM's TIES (one call each: nine closed facts by the kernel) AND EACH ROW's TIE, after the 31st guide's Derived/Test/Toyas{Tie, Card}.lean. No idea stands in it: it is a product of the set-up. Laid BY PROGRAM, IN A SANDBOX (cutbox-door.mjs). By AI agents, Wed Nov 11 2026. No macro, syntax, notation, axiom, sorry.
-/
import Derived.Test.YtdmgmfdmakheiaaDoorRows
import Derived.LaidByTextLater
import Derived.SevenTiedAt
import Derived.LaidSub
import Derived.LaidOnce
namespace Go.Proofs.YtdmgmfdmakheiaaDoor
open Go
set_option maxRecDepth 100000
theorem seatTie1 : Tryd.prog.laidByTextLater [("keyevent/base64.values", Rows.laid_keyevent_base64_values), ("keyevent/primitive.layouts", Rows.laid_keyevent_primitive_layouts), ("keyevent/stream.shapes", Rows.laid_keyevent_stream_shapes)] [.called, .data, .widerDeep] true :=
  Program.laidByTextLater_by_one 1991 8 129 (by kernel_rfl) (by kernel_rfl) (by kernel_rfl) (by kernel_rfl) (by kernel_rfl) (by kernel_rfl) (fun _ _ => by kernel_rfl)
theorem noOwnUnsafe : Tryd.pinned.checked.prog.headLifts.contains "ownunsafe" = false := by kernel_rfl
theorem tie : Tryd.prog.laidByTextLater [("keyevent/base64.values", Rows.laid_keyevent_base64_values), ("keyevent/primitive.layouts", Rows.laid_keyevent_primitive_layouts), ("keyevent/stream.shapes", Rows.laid_keyevent_stream_shapes)] [.called, .data, .widerDeep] true :=
  Program.laidByTextLater.sub seatTie1 ["keyevent/base64.values", "keyevent/primitive.layouts", "keyevent/stream.shapes"] (by kernel_rfl) (by kernel_rfl)
theorem streamActs_row_tie : Rows.streamActsRow.laidByTextAt .later Tryd.pinned [.called, .data, .widerDeep] true :=
  OpenClaim.laidByTextAt_later rfl rfl tie noOwnUnsafe
theorem streamLimit_row_tie : Rows.streamLimitRow.laidByTextAt .later Tryd.pinned [.called, .data, .widerDeep] true :=
  OpenClaim.laidByTextAt_later rfl rfl tie noOwnUnsafe
theorem streamBack_row_tie : Rows.streamBackRow.laidByTextAt .later Tryd.pinned [.called, .data, .widerDeep] true :=
  OpenClaim.laidByTextAt_later rfl rfl tie noOwnUnsafe
theorem streamMarks_row_tie : Rows.streamMarksRow.laidByTextAt .later Tryd.pinned [.called, .data, .widerDeep] true :=
  OpenClaim.laidByTextAt_later rfl rfl tie noOwnUnsafe
theorem streamOnce_row_tie : Rows.streamOnceRow.laidByTextAt .later Tryd.pinned [.called, .data, .widerDeep] true :=
  OpenClaim.laidByTextAt_later rfl rfl tie noOwnUnsafe
theorem streamActsUpto_row_tie : Rows.streamActsUptoRow.laidByTextAt .later Tryd.pinned [.called, .data, .widerDeep] true :=
  OpenClaim.laidByTextAt_later rfl rfl tie noOwnUnsafe
theorem streamLimitUpto_row_tie : Rows.streamLimitUptoRow.laidByTextAt .later Tryd.pinned [.called, .data, .widerDeep] true :=
  OpenClaim.laidByTextAt_later rfl rfl tie noOwnUnsafe
theorem streamBackUpto_row_tie : Rows.streamBackUptoRow.laidByTextAt .later Tryd.pinned [.called, .data, .widerDeep] true :=
  OpenClaim.laidByTextAt_later rfl rfl tie noOwnUnsafe
theorem streamMarksUpto_row_tie : Rows.streamMarksUptoRow.laidByTextAt .later Tryd.pinned [.called, .data, .widerDeep] true :=
  OpenClaim.laidByTextAt_later rfl rfl tie noOwnUnsafe
theorem streamOnceUpto_row_tie : Rows.streamOnceUptoRow.laidByTextAt .later Tryd.pinned [.called, .data, .widerDeep] true :=
  OpenClaim.laidByTextAt_later rfl rfl tie noOwnUnsafe
end Go.Proofs.YtdmgmfdmakheiaaDoor
