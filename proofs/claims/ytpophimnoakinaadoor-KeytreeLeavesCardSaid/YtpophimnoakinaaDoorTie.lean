/-
  DERIVED. GIVEN WITH THE SEED: THE PROGRAM's TIES (one call each: nine closed facts by the kernel) AND EACH ROW's TIE, after the 31st guide's Derived/Test/Toyas{Tie, Card}.lean. No idea stands in it: it is a product of the set-up. Laid BY PROGRAM, IN A SANDBOX (cutbox-door.mjs). By AI agents, Wed Nov 11 2026. No macro, syntax, notation, axiom, sorry.
-/
import Derived.Test.YtpophimnoakinaaDoorRows
import Derived.LaidByTextLater
import Derived.SevenTiedAt
import Derived.LaidSub
import Derived.LaidOnce
namespace Go.Proofs.YtpophimnoakinaaDoor
open Go
set_option maxRecDepth 100000
theorem seatTie1 : Tryd.prog.laidByTextLater [("keyevent/base64.values", Rows.laid_keyevent_base64_values), ("keyevent/primitive.layouts", Rows.laid_keyevent_primitive_layouts), ("keyevent/hash.roundConstants", Rows.laid_keyevent_hash_roundConstants), ("keyevent/hash.startSums", Rows.laid_keyevent_hash_startSums)] [.called, .data, .data, .data] true :=
  Program.laidByTextLater_by_one 1988 8 129 (by kernel_rfl) (by kernel_rfl) (by kernel_rfl) (by kernel_rfl) (by kernel_rfl) (by kernel_rfl) (fun _ _ => by kernel_rfl)
theorem noOwnUnsafe : Tryd.pinned.checked.prog.headLifts.contains "ownunsafe" = false := by kernel_rfl
theorem tie : Tryd.prog.laidByTextLater [("keyevent/base64.values", Rows.laid_keyevent_base64_values), ("keyevent/primitive.layouts", Rows.laid_keyevent_primitive_layouts), ("keyevent/hash.roundConstants", Rows.laid_keyevent_hash_roundConstants), ("keyevent/hash.startSums", Rows.laid_keyevent_hash_startSums)] [.called, .data, .data, .data] true :=
  Program.laidByTextLater.sub seatTie1 ["keyevent/base64.values", "keyevent/primitive.layouts", "keyevent/hash.roundConstants", "keyevent/hash.startSums"] (by kernel_rfl) (by kernel_rfl)
theorem keytreeActs_row_tie : Rows.keytreeActsRow.laidByTextAt .later Tryd.pinned [.called, .data, .data, .data] true :=
  OpenClaim.laidByTextAt_later rfl rfl tie noOwnUnsafe
theorem keytreeSigns_row_tie : Rows.keytreeSignsRow.laidByTextAt .later Tryd.pinned [.called, .data, .data, .data] true :=
  OpenClaim.laidByTextAt_later rfl rfl tie noOwnUnsafe
theorem keytreeLeaves_row_tie : Rows.keytreeLeavesRow.laidByTextAt .later Tryd.pinned [.called, .data, .data, .data] true :=
  OpenClaim.laidByTextAt_later rfl rfl tie noOwnUnsafe
theorem keytreeUses_row_tie : Rows.keytreeUsesRow.laidByTextAt .later Tryd.pinned [.called, .data, .data, .data] true :=
  OpenClaim.laidByTextAt_later rfl rfl tie noOwnUnsafe
theorem keytreeActsUpto_row_tie : Rows.keytreeActsUptoRow.laidByTextAt .later Tryd.pinned [.called, .data, .data, .data] true :=
  OpenClaim.laidByTextAt_later rfl rfl tie noOwnUnsafe
theorem keytreeSignsUpto_row_tie : Rows.keytreeSignsUptoRow.laidByTextAt .later Tryd.pinned [.called, .data, .data, .data] true :=
  OpenClaim.laidByTextAt_later rfl rfl tie noOwnUnsafe
theorem keytreeLeavesUpto_row_tie : Rows.keytreeLeavesUptoRow.laidByTextAt .later Tryd.pinned [.called, .data, .data, .data] true :=
  OpenClaim.laidByTextAt_later rfl rfl tie noOwnUnsafe
theorem keytreeUsesUpto_row_tie : Rows.keytreeUsesUptoRow.laidByTextAt .later Tryd.pinned [.called, .data, .data, .data] true :=
  OpenClaim.laidByTextAt_later rfl rfl tie noOwnUnsafe
end Go.Proofs.YtpophimnoakinaaDoor
