/- The tables of base64 and primitive out of what the rows list: the rows' condition gives the walks the tables' cells; the heap that the program's own start-up leaves meets the condition. -/
import Derived.Test.YtdmgmfdmakheiaaDoorQlay
import Derived.Test.YtdmgmfdmakheiaaDoorBase
import Derived.LaidMore
import Derived.Lib.LaidTab
import Derived.Stop.Joined
import Derived.OpenShut
namespace Go.Proofs.YtdmgmfdmakheiaaDoor
open Go.ChangeShapes Go.WideShapes Go.ChangeAt Go.RowKit
set_option linter.unusedVariables false
set_option linter.unusedSimpArgs false

theorem own : ownKnob Tryd.prog.godebug = none := by kernel_rfl
theorem laidOut : laidOutB Tryd.prog = true := by kernel_rfl
/-- The numbers that the rows list for the table are those of 'val1'. -/
def tabL : List Int := (List.range 128).map fun i => (val1 i : Int)
theorem laid_is : (Rows.laid_keyevent_base64_values : DataW Unit) = Lib.tabData .u8 tabL := by kernel_rfl
/-- What the rows list for the layouts. -/
def layD : List (DataW Unit) := (List.range 9).map fun i => .agg [.lit (.string (codeL i)), .lit (.int .i64 (rawN i))]
theorem laid_isL : (Rows.laid_keyevent_primitive_layouts : DataW Unit) = .agg layD := by kernel_rfl
theorem cells_lay : Tryd.prog.cellsOf 94 = 2 := by kernel_rfl
theorem cells_str : Tryd.prog.cellsOf 9 = 1 := by kernel_rfl
theorem cells_int : Tryd.prog.cellsOf 3 = 1 := by kernel_rfl
theorem one_of {cs : List Value} {k : Nat} {v : Value} (h : (cs.drop k).take 1 = [v]) : cs[k]? = some v := by
  have := congrArg (·[0]?) h
  simpa [List.getElem?_take, List.getElem?_drop] using this
/-- A row of the table, cell for cell. -/
theorem lay_row {W : World} {enc : TypeId × Value → Unit} {base : Nat} {sp : Nat → Bool} {held : Bool} {fuel : Nat} {cs : List Value} {c : List UInt8} {r : Nat} {p : List MemPlace}
    (h : DataW.trod enc Tryd.prog W base sp held fuel 94 cs = some (.agg [.lit (.string c), .lit (.int .i64 r)], p)) : cs[0]? = some (.string ⟨c.toArray⟩) ∧ cs[1]? = some (.int .i64 r) := by
  obtain ⟨y0, y1, n, hx, hl, h0, h1⟩ := trod_struct2 Tryd.underlying94 h
  simp only [cells_str, cells_int] at h0 h1
  obtain ⟨s, e0, f0, _⟩ := DataW.trod_string Tryd.underlying9 h0
  obtain ⟨z, e1, f1, _⟩ := DataW.trod_int Tryd.underlying3 h1
  subst f0 f1
  simp only [Prod.mk.injEq, DataW.agg.injEq, List.cons.injEq, DataW.lit.injEq, Lit.string.injEq, Lit.int.injEq, true_and, and_true] at hx
  obtain ⟨⟨hs, hz⟩, -⟩ := hx
  refine ⟨?_, ?_⟩
  · rw [one_of e0, hs]
  · rw [one_of e1, hz]
theorem lay_of_reads {W : World} {cs : Array Value} {fuel : Nat} {p : List MemPlace} (hv : W.var? Tryd.prog "keyevent/primitive.layouts" = some cs) (h : DataW.trod (fun _ => ()) Tryd.prog W 0 (fun _ => true) false fuel 95 cs.toList = some (Rows.laid_keyevent_primitive_layouts, p)) : Lay W := by
  rw [laid_isL] at h
  obtain ⟨xs, m, rfl, hx, hl, hxl, hall⟩ := DataW.trod_array Tryd.underlying95 h
  intro i hi
  have hi' := hall i hi
  rw [cells_lay] at hi'
  have hxs : xs.map (·.1) = layD := by
    have := congrArg Prod.fst hx
    simpa using this.symm
  obtain ⟨b, hb⟩ : ∃ b, xs[i]? = some b := ⟨xs[i]'(by omega), List.getElem?_eq_getElem (by omega)⟩
  rw [hb] at hi'
  have hb1 : b.1 = .agg [.lit (.string (codeL i)), .lit (.int .i64 (rawN i))] := by
    have := congrArg (·[i]?) hxs
    simp only [List.getElem?_map, hb, Option.map_some] at this
    simp only [layD, List.getElem?_map, List.getElem?_range hi, Option.map_some, Option.some.injEq] at this
    exact this
  obtain ⟨d, q⟩ := b
  simp only at hb1
  subst hb1
  obtain ⟨r0, r1⟩ := lay_row hi'
  rw [List.getElem?_take, if_pos (by omega), List.getElem?_drop] at r0 r1
  have c0 := World.var?_cell (g := 0) (by kernel_rfl) hv (i * 2)
  have c1 := World.var?_cell (g := 0) (by kernel_rfl) hv (i * 2 + 1)
  rw [c0, c1]
  exact ⟨by simpa using r0, by simpa using r1⟩
theorem lay_of_laid {W : World} (h : laidMetH Tryd.prog [("keyevent/primitive.layouts", Rows.laid_keyevent_primitive_layouts)] W) : Lay W := by
  rw [MakeChecks.laidMetH_plain _ _ _ (by kernel_rfl)] at h
  obtain ⟨ps, ⟨g', t', cs, fuel, p, q, hg', ht', hvar, hd, _, _⟩, _⟩ := h
  have e1 : Tryd.prog.globalNamed "keyevent/primitive.layouts" = some 0 := by kernel_rfl
  obtain rfl := Option.some.inj (e1.symm.trans hg')
  have e2 : (Tryd.prog.globals[0]?).map (·.type) = some 95 := by kernel_rfl
  obtain rfl := Option.some.inj (e2.symm.trans ht')
  exact lay_of_reads hvar hd
theorem tabs_of_laid {W : World} (h : laidMetH Tryd.prog [("keyevent/base64.values", Rows.laid_keyevent_base64_values), ("keyevent/primitive.layouts", Rows.laid_keyevent_primitive_layouts)] W) : Tab W ∧ Lay W := by
  rw [MakeChecks.laidMetH_plain _ _ _ (by kernel_rfl)] at h
  have h' := h
  refine ⟨?_, ?_⟩
  · rw [laid_is] at h
    have hT := Lib.tabIs_of_head (P := Tryd.prog) (g := 2) (t := 111) (e := 5) (n := 128) (by kernel_rfl) (by kernel_rfl) Tryd.underlying111 Tryd.underlying5 (by kernel_rfl) (by kernel_rfl) h
    intro i hi
    have hc := hT.cell (g := 2) (by kernel_rfl) i (by simp [tabL]; exact hi)
    rw [hc]
    simp [tabL, List.getD, hi]
  · obtain ⟨ps, ⟨_, _, _, _, _, _, _, _, _, _, ⟨g', t', cs, fuel, p, q, hg', ht', hvar, hd, _, _⟩, _⟩, _⟩ := h'
    have e1 : Tryd.prog.globalNamed "keyevent/primitive.layouts" = some 0 := by kernel_rfl
    obtain rfl := Option.some.inj (e1.symm.trans hg')
    have e2 : (Tryd.prog.globals[0]?).map (·.type) = some 95 := by kernel_rfl
    obtain rfl := Option.some.inj (e2.symm.trans ht')
    exact lay_of_reads hvar hd

end Go.Proofs.YtdmgmfdmakheiaaDoor
