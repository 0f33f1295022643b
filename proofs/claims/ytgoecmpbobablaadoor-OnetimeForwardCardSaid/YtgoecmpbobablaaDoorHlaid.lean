/- The two tables of hash out of what the rows list: the condition of the rows gives the walks the tables' cells; the heap that the program's own start-up leaves meets the condition. -/
import Derived.Test.YtgoecmpbobablaaDoorHashe
import Derived.LaidMore
import Derived.Lib.LaidTab
import Derived.Lib.LaidU8
import Derived.Stop.Joined
namespace Go.Proofs.YtgoecmpbobablaaDoor
open Go.ChangeShapes Go.WideShapes Go.ChangeAt Go.RowKit
set_option linter.unusedVariables false
set_option linter.unusedSimpArgs false

theorem own : ownKnob Tryd.prog.godebug = none := by kernel_rfl
theorem laidOut : laidOutB Tryd.prog = true := by kernel_rfl
theorem tabIs_of_reads {P : Program} {W : World} {name : String} {k : IntKind} {zs : List Int} {l : List (String × DataW Unit)} {g : Nat} {t e : TypeId} {n : Nat}
    (hg : P.globalNamed name = some g) (hty : (P.globals[g]?).map (·.type) = some t) (ht : P.underlying t = some (.array n e)) (he : P.underlying e = some (.int k)) (hce : P.cellsOf e = 1) (hct : P.cellsOf t = n)
    (h : laidMet P l W) (hm : (name, Lib.tabData k zs) ∈ l) : Lib.TabIs P W name k zs := by
  obtain ⟨g', t', cs, fuel, p, hg', ht', hvar, hd⟩ := Lib.laidMet.reads h hm
  obtain rfl := Option.some.inj (hg.symm.trans hg')
  obtain rfl := Option.some.inj (hty.symm.trans ht')
  unfold Lib.TabIs
  rw [hvar, ← Lib.cells_of_tab ht he hce hct hd]
theorem laid_isK : (Rows.laid_keyevent_hash_roundConstants : DataW Unit) = Lib.tabData .u32 KL := by kernel_rfl
theorem laid_isH : (Rows.laid_keyevent_hash_startSums : DataW Unit) = Lib.tabData .u32 HL := by kernel_rfl
theorem tab_of_laid {W : World} (h : laidMetH Tryd.prog [("keyevent/hash.roundConstants", Rows.laid_keyevent_hash_roundConstants), ("keyevent/hash.startSums", Rows.laid_keyevent_hash_startSums)] W) : STab W := by
  rw [MakeChecks.laidMetH_plain _ _ _ (by kernel_rfl), laid_isK, laid_isH] at h
  have hK := tabIs_of_reads (P := Tryd.prog) (g := 1) (t := 54) (e := 51) (n := 64) (by kernel_rfl) (by kernel_rfl) Tryd.underlying54 Tryd.underlying51 (by kernel_rfl) (by kernel_rfl) h (.head _)
  have hH := tabIs_of_reads (P := Tryd.prog) (g := 0) (t := 52) (e := 51) (n := 8) (by kernel_rfl) (by kernel_rfl) Tryd.underlying52 Tryd.underlying51 (by kernel_rfl) (by kernel_rfl) h (.tail _ (.head _))
  have kt : KTab W := fun i hi => hK.cell (g := 1) (by kernel_rfl) i (by rw [show KL.length = 64 by decide]; exact hi)
  have ht : HTab W := by
    intro j v hv
    have hj : j < HL.length := by
      rcases Nat.lt_or_ge j HL.length with h | h
      · exact h
      · rw [List.getElem?_eq_none (by rw [u32s_length]; exact h)] at hv; cases hv
    rw [u32s_get HL j hj] at hv
    cases hv
    rw [Nat.zero_add]
    exact hH.cell (g := 0) (by kernel_rfl) j hj
  refine ⟨kt, ht, cell_lt (kt 0 (by omega)), ?_⟩
  have := ht 0 _ (u32s_get HL 0 (by decide))
  exact cell_lt this
/-- The heap that the door's own run leaves meets the condition. -/
theorem door_met (os : Os) (args : Array Value) : laidMetH Tryd.prog [("keyevent/hash.roundConstants", Rows.laid_keyevent_hash_roundConstants), ("keyevent/hash.startSums", Rows.laid_keyevent_hash_startSums)] ((World.doorLaid Tryd.prog 19 os).forCall (fun _ _ => 0) ⟨#[], args, []⟩).memory :=
  laidMetH_of_parts3 (fuel := 8) (laidMet_of_run' 8 (by kernel_rfl) (by kernel_rfl)) (by kernel_rfl) (by kernel_rfl)

end Go.Proofs.YtgoecmpbobablaaDoor
