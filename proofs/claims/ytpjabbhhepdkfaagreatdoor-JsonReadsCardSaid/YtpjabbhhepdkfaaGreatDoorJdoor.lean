/- The tables out of the rows' conditions; worlds that meet them. -/
import Derived.Test.YtpjabbhhepdkfaaGreatDoorNutf
import Derived.Test.YtpjabbhhepdkfaaGreatDoorJitoa
import Derived.Test.YtpjabbhhepdkfaaGreatDoorPrim
import Derived.Stop.LaidErr
import GoSem.PinnedTables
import Derived.Lay
import Derived.KernelRfl
namespace Go.Proofs.YtpjabbhhepdkfaaGreatDoor
open Go Go.RowKit Go.Shelf Go.Lib
set_option linter.unusedVariables false

theorem own : ownKnob Tryz.prog.godebug = none := by kernel_rfl
theorem laidOut : laidOutB Tryz.prog = true := by kernel_rfl
theorem jlaid_accept : (Rows.laid_unicode_utf8_acceptRanges : DataW Unit) = acceptData := by kernel_rfl
theorem jlaid_first : Rows.laid_unicode_utf8_first = firstData := by kernel_rfl
theorem jlaid_pow : (Rows.laid_internal_strconv_uint64pow10 : DataW Unit) = tabData .u64 Lib.pow10Tab := by kernel_rfl
theorem jitab_of {w : World} {r : List (String × DataW Unit)} (h : laidMet Tryz.prog (("internal/strconv.uint64pow10", Rows.laid_internal_strconv_uint64pow10) :: r) w) : Itab w := by
  rw [jlaid_pow] at h
  exact tabIs_of_head (g := 2) (t := 131) (e := 96) (n := 20) (by kernel_rfl) (by kernel_rfl) Tryz.underlying131 Tryz.underlying96 (by kernel_rfl) (by kernel_rfl) h
end Go.Proofs.YtpjabbhhepdkfaaGreatDoor
