/- The table of values out of what the rows list: the condition of the rows gives the walks the table's cells; the heap that the program's own start-up leaves meets the condition. -/
import Derived.Test.YtgpilklgaipboaaDoorBase
import Derived.LaidMore
import Derived.Lib.LaidTab
import Derived.Stop.Joined
namespace Go.Proofs.YtgpilklgaipboaaDoor
open Go.ChangeShapes Go.WideShapes Go.ChangeAt Go.RowKit
set_option linter.unusedVariables false
set_option linter.unusedSimpArgs false

theorem own : ownKnob Tryd.prog.godebug = none := by kernel_rfl
theorem laidOut : laidOutB Tryd.prog = true := by kernel_rfl
/-- The numbers that the rows list for the table are those of 'val1'. -/
def tabL : List Int := (List.range 128).map fun i => (val1 i : Int)
theorem laid_is : (Rows.laid_keyevent_base64_values : DataW Unit) = Lib.tabData .u8 tabL := by kernel_rfl
theorem tab_of_laid {W : World} (h : laidMetH Tryd.prog [("keyevent/base64.values", Rows.laid_keyevent_base64_values)] W) : Tab W := by
  rw [MakeChecks.laidMetH_plain _ _ _ (by kernel_rfl), laid_is] at h
  have hT := Lib.tabIs_of_head (P := Tryd.prog) (g := 0) (t := 48) (e := 5) (n := 128) (by kernel_rfl) (by kernel_rfl) Tryd.underlying48 Tryd.underlying5 (by kernel_rfl) (by kernel_rfl) h
  intro i hi
  have hc := hT.cell (g := 0) (by kernel_rfl) i (by simp [tabL]; exact hi)
  rw [hc]
  simp [tabL, List.getD, hi]
/-- The heap that the door's own run leaves meets the condition. -/
theorem door_met (os : Os) (args : Array Value) : laidMetH Tryd.prog [("keyevent/base64.values", Rows.laid_keyevent_base64_values)] ((World.doorLaid Tryd.prog 1965 os).forCall (fun _ _ => 0) ⟨#[], args, []⟩).memory :=
  laidMetH_of_parts3 (fuel := 8) (laidMet_of_run' 8 (by kernel_rfl) (by kernel_rfl)) (by kernel_rfl) (by kernel_rfl)
theorem size_of_laid {W : World} (h : Tab W) : 1 ≤ W.heap.size := by
  have := h 0 (by omega)
  rcases Nat.lt_or_ge 0 W.heap.size with h' | h'
  · exact h'
  · have : W.heap.size = 0 := by omega
    simp [World.cell?, Array.getElem?_eq_none (show W.heap.size ≤ 0 by omega)] at *

end Go.Proofs.YtgpilklgaipboaaDoor
