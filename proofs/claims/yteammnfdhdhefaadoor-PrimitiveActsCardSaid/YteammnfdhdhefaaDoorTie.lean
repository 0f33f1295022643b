/-
  DERIVED. GIVEN WITH THE SEED: THE PROGRAM's TIES (one call each: nine closed facts by the kernel) AND EACH ROW's TIE, after the 31st guide's Derived/Test/Toyas{Tie, Card}.lean. No idea stands in it: it is a product of the set-up. Laid BY PROGRAM, IN A SANDBOX (cutbox-door.mjs). By AI agents, Wed Nov 11 2026. No macro, syntax, notation, axiom, sorry.
-/
import Derived.Test.YteammnfdhdhefaaDoorRows
import Derived.LaidByTextLater
import Derived.SevenTiedAt
import Derived.LaidSub
import Derived.LaidOnce
namespace Go.Proofs.YteammnfdhdhefaaDoor
open Go
set_option maxRecDepth 100000
theorem seatTie1 : Tryd.prog.laidByTextLater [("keyevent/base64.values", Rows.laid_keyevent_base64_values), ("keyevent/primitive.layouts", Rows.laid_keyevent_primitive_layouts)] [.called, .data] true :=
  Program.laidByTextLater_by_one 1978 8 129 (by kernel_rfl) (by kernel_rfl) (by kernel_rfl) (by kernel_rfl) (by kernel_rfl) (by kernel_rfl) (fun _ _ => by kernel_rfl)
theorem noOwnUnsafe : Tryd.pinned.checked.prog.headLifts.contains "ownunsafe" = false := by kernel_rfl
theorem tie : Tryd.prog.laidByTextLater [("keyevent/base64.values", Rows.laid_keyevent_base64_values), ("keyevent/primitive.layouts", Rows.laid_keyevent_primitive_layouts)] [.called, .data] true :=
  Program.laidByTextLater.sub seatTie1 ["keyevent/base64.values", "keyevent/primitive.layouts"] (by kernel_rfl) (by kernel_rfl)
theorem primitiveActs_row_tie : Rows.primitiveActsRow.laidByTextAt .later Tryd.pinned [.called, .data] true :=
  OpenClaim.laidByTextAt_later rfl rfl tie noOwnUnsafe
theorem primitiveBack_row_tie : Rows.primitiveBackRow.laidByTextAt .later Tryd.pinned [.called, .data] true :=
  OpenClaim.laidByTextAt_later rfl rfl tie noOwnUnsafe
theorem primitiveRows_row_tie : Rows.primitiveRowsRow.laidByTextAt .later Tryd.pinned [.called, .data] true :=
  OpenClaim.laidByTextAt_later rfl rfl tie noOwnUnsafe
theorem primitiveOnce_row_tie : Rows.primitiveOnceRow.laidByTextAt .later Tryd.pinned [.called, .data] true :=
  OpenClaim.laidByTextAt_later rfl rfl tie noOwnUnsafe
theorem primitiveOpens_row_tie : Rows.primitiveOpensRow.laidByTextAt .later Tryd.pinned [.called, .data] true :=
  OpenClaim.laidByTextAt_later rfl rfl tie noOwnUnsafe
theorem tie2 : Tryd.prog.laidByTextLater [("keyevent/primitive.layouts", Rows.laid_keyevent_primitive_layouts)] [.data] true :=
  Program.laidByTextLater.sub seatTie1 ["keyevent/primitive.layouts"] (by kernel_rfl) (by kernel_rfl)
theorem primitiveSizes_row_tie : Rows.primitiveSizesRow.laidByTextAt .later Tryd.pinned [.data] true :=
  OpenClaim.laidByTextAt_later rfl rfl tie2 noOwnUnsafe
theorem primitiveActsUpto_row_tie : Rows.primitiveActsUptoRow.laidByTextAt .later Tryd.pinned [.called, .data] true :=
  OpenClaim.laidByTextAt_later rfl rfl tie noOwnUnsafe
theorem primitiveBackUpto_row_tie : Rows.primitiveBackUptoRow.laidByTextAt .later Tryd.pinned [.called, .data] true :=
  OpenClaim.laidByTextAt_later rfl rfl tie noOwnUnsafe
theorem primitiveRowsUpto_row_tie : Rows.primitiveRowsUptoRow.laidByTextAt .later Tryd.pinned [.called, .data] true :=
  OpenClaim.laidByTextAt_later rfl rfl tie noOwnUnsafe
theorem primitiveOnceUpto_row_tie : Rows.primitiveOnceUptoRow.laidByTextAt .later Tryd.pinned [.called, .data] true :=
  OpenClaim.laidByTextAt_later rfl rfl tie noOwnUnsafe
theorem primitiveOpensUpto_row_tie : Rows.primitiveOpensUptoRow.laidByTextAt .later Tryd.pinned [.called, .data] true :=
  OpenClaim.laidByTextAt_later rfl rfl tie noOwnUnsafe
theorem primitiveSizesUpto_row_tie : Rows.primitiveSizesUptoRow.laidByTextAt .later Tryd.pinned [.data] true :=
  OpenClaim.laidByTextAt_later rfl rfl tie2 noOwnUnsafe
end Go.Proofs.YteammnfdhdhefaaDoor
