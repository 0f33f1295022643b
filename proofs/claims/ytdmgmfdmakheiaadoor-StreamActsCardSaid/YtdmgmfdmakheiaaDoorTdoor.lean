/- The tables of base64 and primitive out of what the rows list: the rows' condition gives the walks the tables' cells; the heap that the program's own start-up leaves meets the condition. Then: The three tables (base64, primitive, stream) out of what the rows list. Then: The heap that the program's own start-up leaves meets the condition of the rows that list the three tables. -/
import Derived.Test.YtdmgmfdmakheiaaDoorQlay
import Derived.Test.YtdmgmfdmakheiaaDoorBase
import Derived.LaidMore
import Derived.Lib.LaidTab
import Derived.Stop.Joined
import Derived.OpenShut
import Derived.Test.YtdmgmfdmakheiaaDoorTenc
namespace Go.Proofs.YtdmgmfdmakheiaaDoor
open Go.ChangeShapes Go.WideShapes Go.ChangeAt Go.RowKit
set_option linter.unusedVariables false
set_option linter.unusedSimpArgs false

theorem own : ownKnob Tryd.prog.godebug = none := by kernel_rfl
theorem laidOut : laidOutB Tryd.prog = true := by kernel_rfl
/-- The numbers that the rows list for the table are those of 'val1'. -/
def tabL : List Int := (List.range 128).map fun i => (val1 i : Int)
theorem laid_is : (Rows.laid_keyevent_base64_values : DataW Unit) = Lib.tabData .u8 tabL := by kernel_rfl
/-- What the rows list for the layouts. -/
def layD : List (DataW Unit) := (List.range 9).map fun i => .agg [.lit (.string (codeL i)), .lit (.int .i64 (rawN i))]
theorem laid_isL : (Rows.laid_keyevent_primitive_layouts : DataW Unit) = .agg layD := by kernel_rfl
theorem cells_lay : Tryd.prog.cellsOf 94 = 2 := by kernel_rfl
theorem cells_str : Tryd.prog.cellsOf 9 = 1 := by kernel_rfl
theorem cells_int : Tryd.prog.cellsOf 3 = 1 := by kernel_rfl
theorem one_of {cs : List Value} {k : Nat} {v : Value} (h : (cs.drop k).take 1 = [v]) : cs[k]? = some v := by
  have := congrArg (·[0]?) h
  simpa [List.getElem?_take, List.getElem?_drop] using this
/-- A row of the table, cell for cell. -/
theorem lay_row {W : World} {enc : TypeId × Value → Unit} {base : Nat} {sp : Nat → Bool} {held : Bool} {fuel : Nat} {cs : List Value} {c : List UInt8} {r : Nat} {p : List MemPlace}
    (h : DataW.trod enc Tryd.prog W base sp held fuel 94 cs = some (.agg [.lit (.string c), .lit (.int .i64 r)], p)) : cs[0]? = some (.string ⟨c.toArray⟩) ∧ cs[1]? = some (.int .i64 r) := by
  obtain ⟨y0, y1, n, hx, hl, h0, h1⟩ := trod_struct2 Tryd.underlying94 h
  simp only [cells_str, cells_int] at h0 h1
  obtain ⟨s, e0, f0, _⟩ := DataW.trod_string Tryd.underlying9 h0
  obtain ⟨z, e1, f1, _⟩ := DataW.trod_int Tryd.underlying3 h1
  subst f0 f1
  simp only [Prod.mk.injEq, DataW.agg.injEq, List.cons.injEq, DataW.lit.injEq, Lit.string.injEq, Lit.int.injEq, true_and, and_true] at hx
  obtain ⟨⟨hs, hz⟩, -⟩ := hx
  refine ⟨?_, ?_⟩
  · rw [one_of e0, hs]
  · rw [one_of e1, hz]
theorem lay_of_reads {W : World} {cs : Array Value} {fuel : Nat} {p : List MemPlace} (hv : W.var? Tryd.prog "keyevent/primitive.layouts" = some cs) (h : DataW.trod (fun _ => ()) Tryd.prog W 0 (fun _ => true) false fuel 95 cs.toList = some (Rows.laid_keyevent_primitive_layouts, p)) : Lay W := by
  rw [laid_isL] at h
  obtain ⟨xs, m, rfl, hx, hl, hxl, hall⟩ := DataW.trod_array Tryd.underlying95 h
  intro i hi
  have hi' := hall i hi
  rw [cells_lay] at hi'
  have hxs : xs.map (·.1) = layD := by
    have := congrArg Prod.fst hx
    simpa using this.symm
  obtain ⟨b, hb⟩ : ∃ b, xs[i]? = some b := ⟨xs[i]'(by omega), List.getElem?_eq_getElem (by omega)⟩
  rw [hb] at hi'
  have hb1 : b.1 = .agg [.lit (.string (codeL i)), .lit (.int .i64 (rawN i))] := by
    have := congrArg (·[i]?) hxs
    simp only [List.getElem?_map, hb, Option.map_some] at this
    simp only [layD, List.getElem?_map, List.getElem?_range hi, Option.map_some, Option.some.injEq] at this
    exact this
  obtain ⟨d, q⟩ := b
  simp only at hb1
  subst hb1
  obtain ⟨r0, r1⟩ := lay_row hi'
  rw [List.getElem?_take, if_pos (by omega), List.getElem?_drop] at r0 r1
  have c0 := World.var?_cell (g := 0) (by kernel_rfl) hv (i * 2)
  have c1 := World.var?_cell (g := 0) (by kernel_rfl) hv (i * 2 + 1)
  rw [c0, c1]
  exact ⟨by simpa using r0, by simpa using r1⟩
theorem lay_of_laid {W : World} (h : laidMetH Tryd.prog [("keyevent/primitive.layouts", Rows.laid_keyevent_primitive_layouts)] W) : Lay W := by
  rw [MakeChecks.laidMetH_plain _ _ _ (by kernel_rfl)] at h
  obtain ⟨ps, ⟨g', t', cs, fuel, p, q, hg', ht', hvar, hd, _, _⟩, _⟩ := h
  have e1 : Tryd.prog.globalNamed "keyevent/primitive.layouts" = some 0 := by kernel_rfl
  obtain rfl := Option.some.inj (e1.symm.trans hg')
  have e2 : (Tryd.prog.globals[0]?).map (·.type) = some 95 := by kernel_rfl
  obtain rfl := Option.some.inj (e2.symm.trans ht')
  exact lay_of_reads hvar hd
theorem tabs_of_laid {W : World} (h : laidMetH Tryd.prog [("keyevent/base64.values", Rows.laid_keyevent_base64_values), ("keyevent/primitive.layouts", Rows.laid_keyevent_primitive_layouts)] W) : Tab W ∧ Lay W := by
  rw [MakeChecks.laidMetH_plain _ _ _ (by kernel_rfl)] at h
  have h' := h
  refine ⟨?_, ?_⟩
  · rw [laid_is] at h
    have hT := Lib.tabIs_of_head (P := Tryd.prog) (g := 2) (t := 111) (e := 5) (n := 128) (by kernel_rfl) (by kernel_rfl) Tryd.underlying111 Tryd.underlying5 (by kernel_rfl) (by kernel_rfl) h
    intro i hi
    have hc := hT.cell (g := 2) (by kernel_rfl) i (by simp [tabL]; exact hi)
    rw [hc]
    simp [tabL, List.getD, hi]
  · obtain ⟨ps, ⟨_, _, _, _, _, _, _, _, _, _, ⟨g', t', cs, fuel, p, q, hg', ht', hvar, hd, _, _⟩, _⟩, _⟩ := h'
    have e1 : Tryd.prog.globalNamed "keyevent/primitive.layouts" = some 0 := by kernel_rfl
    obtain rfl := Option.some.inj (e1.symm.trans hg')
    have e2 : (Tryd.prog.globals[0]?).map (·.type) = some 95 := by kernel_rfl
    obtain rfl := Option.some.inj (e2.symm.trans ht')
    exact lay_of_reads hvar hd

end Go.Proofs.YtdmgmfdmakheiaaDoor

namespace Go.Proofs.YtdmgmfdmakheiaaDoor
open Go.ChangeShapes Go.WideShapes Go.ChangeAt Go.RowKit
set_option linter.unusedVariables false
set_option linter.unusedSimpArgs false

/-- What the rows list for the shapes. -/
def shpI (i : Nat) : DataW Unit := if i = 0 then .nil else .slice ((permL (i : Int)).map fun z => .lit (.int .i64 z)) []
def shpD : List (DataW Unit) := (List.range 5).map fun i => .agg [.lit (.string (letL i)), shpI i]
theorem laid_isS : (Rows.laid_keyevent_stream_shapes : DataW Unit) = .agg shpD := by kernel_rfl
theorem cells_shp : Tryd.prog.cellsOf 82 = 2 := by kernel_rfl
theorem cells_ints : Tryd.prog.cellsOf 22 = 1 := by kernel_rfl
/-- A pattern, read. -/
theorem ints_of_reads {W : World} {fuel : Nat} {v : Value} {l : List Int} {p : List MemPlace} (h : DataW.trod (fun _ => ()) Tryd.prog W 0 (fun _ => true) false fuel 22 [v] = some (.slice (l.map fun z => (.lit (.int .i64 z) : DataW Unit)) [], p)) (hl : 0 < l.length) : IntsAt W.heap.size W v l := by
  obtain ⟨a, cap, hv, hle, hall⟩ := open_row Tryd.underlying22 cells_int h
  rw [List.length_map] at hv hle
  cases hv
  have hc : ∀ i, i < l.length → W.cell? (a.add i) = some (.int .i64 (l.getD i 0)) := by
    intro i hi
    obtain ⟨v, n, q, hcell, htr⟩ := hall i (.lit (.int .i64 (l.getD i 0))) (by rw [List.getElem?_map, List.getElem?_eq_getElem hi]; simp [List.getD, List.getElem?_eq_getElem hi])
    obtain ⟨z, e1, f1, _⟩ := DataW.trod_int Tryd.underlying3 htr
    cases e1
    simp only [Prod.mk.injEq, DataW.lit.injEq, Lit.int.injEq, true_and] at f1
    rw [hcell, ← f1.1]
  have hc0 := hc 0 hl
  obtain ⟨b, off, spot⟩ := a
  have hspot : spot = none := by simpa [Addr.add] using World.cell?_spot hc0
  subst hspot
  refine ⟨_, cap, rfl, hle, fun i hi => ?_⟩
  have h1 := hc i hi
  rw [Addr.add_lit] at h1
  exact ⟨b, off, rfl, cell_lt h1, h1⟩
theorem nil_of_reads {W : World} {fuel : Nat} {v : Value} {p : List MemPlace} (h : DataW.trod (fun _ => ()) Tryd.prog W 0 (fun _ => true) false fuel 22 [v] = some (.nil, p)) : v = .slice none 0 0 := by
  rcases DataW.trod_slice Tryd.underlying22 h with ⟨h1, -⟩ | ⟨a, len, cap, elems, rest, n, _, _, hx, _⟩
  · exact (List.cons.inj h1).1
  · simp at hx
theorem shp_row {W : World} {fuel : Nat} {cs : List Value} {c : List UInt8} {d : DataW Unit} {p : List MemPlace}
    (h : DataW.trod (fun _ => ()) Tryd.prog W 0 (fun _ => true) false fuel 82 cs = some (.agg [.lit (.string c), d], p)) : cs[0]? = some (.string ⟨c.toArray⟩) ∧ ∃ v n q, cs[1]? = some v ∧ DataW.trod (fun _ => ()) Tryd.prog W 0 (fun _ => true) false n 22 [v] = some (d, q) := by
  obtain ⟨y0, y1, n, hx, hl, h0, h1⟩ := trod_struct2 Tryd.underlying82 h
  simp only [cells_str, cells_ints] at h0 h1
  obtain ⟨s, e0, f0, _⟩ := DataW.trod_string Tryd.underlying9 h0
  subst f0
  simp only [Prod.mk.injEq, DataW.agg.injEq, List.cons.injEq, DataW.lit.injEq, Lit.string.injEq, true_and, and_true] at hx
  obtain ⟨⟨hs, hd⟩, -⟩ := hx
  rw [cells_shp] at hl
  refine ⟨?_, ?_⟩
  · rw [one_of e0, hs]
  · match cs, hl with
    | [u, v], _ =>
      refine ⟨v, n, y1.2, rfl, ?_⟩
      have h1' : DataW.trod (fun _ => ()) Tryd.prog W 0 (fun _ => true) false n 22 [v] = some y1 := h1
      rw [h1', hd]
theorem shp_of_reads {W : World} {cs : Array Value} {fuel : Nat} {p : List MemPlace} (hv : W.var? Tryd.prog "keyevent/stream.shapes" = some cs) (h : DataW.trod (fun _ => ()) Tryd.prog W 0 (fun _ => true) false fuel 97 cs.toList = some (Rows.laid_keyevent_stream_shapes, p)) : Shp W := by
  rw [laid_isS] at h
  obtain ⟨xs, m, rfl, hx, hl, hxl, hall⟩ := DataW.trod_array Tryd.underlying97 h
  have hcc : ∀ j, W.cell? ⟨1, j, none⟩ = cs[j]? := fun j => World.var?_cell (g := 1) (by kernel_rfl) hv j
  have key : ∀ i, i < 5 → cs[i * 2]? = some (.string ⟨(letL i).toArray⟩) ∧ ∃ v n q, cs[i * 2 + 1]? = some v ∧ DataW.trod (fun _ => ()) Tryd.prog W 0 (fun _ => true) false n 22 [v] = some (shpI i, q) := by
    intro i hi
    have hi' := hall i hi
    rw [cells_shp] at hi'
    have hxs : xs.map (·.1) = shpD := by
      have := congrArg Prod.fst hx
      simpa using this.symm
    obtain ⟨b, hb⟩ : ∃ b, xs[i]? = some b := ⟨xs[i]'(by omega), List.getElem?_eq_getElem (by omega)⟩
    rw [hb] at hi'
    have hb1 : b.1 = .agg [.lit (.string (letL i)), shpI i] := by
      have := congrArg (·[i]?) hxs
      simp only [List.getElem?_map, hb, Option.map_some] at this
      simp only [shpD, List.getElem?_map, List.getElem?_range hi, Option.map_some, Option.some.injEq] at this
      exact this
    obtain ⟨d, q⟩ := b
    simp only at hb1
    subst hb1
    obtain ⟨r0, v, n, q2, r1, r2⟩ := shp_row hi'
    rw [List.getElem?_take, if_pos (by omega), List.getElem?_drop] at r0 r1
    exact ⟨by simpa using r0, v, n, q2, by simpa using r1, r2⟩
  refine ⟨fun i => cs[i * 2 + 1]?.getD (.slice none 0 0), ?_, ?_, fun i hi => ?_⟩
  · have := (key 0 (by omega)).1
    rw [← hcc] at this
    exact cell_lt this
  · obtain ⟨-, v, n, q, h1, h2⟩ := key 0 (by omega)
    show cs[0 * 2 + 1]?.getD _ = _
    rw [h1]
    exact nil_of_reads (show DataW.trod (fun _ => ()) Tryd.prog W 0 (fun _ => true) false n 22 [v] = some (.nil, q) from h2)
  · obtain ⟨h0, v, n, q, h1, h2⟩ := key i hi
    refine ⟨by rw [hcc]; exact h0, by rw [hcc, h1]; show some v = some (cs[i * 2 + 1]?.getD _); rw [h1]; rfl, ?_⟩
    show IntsAt W.heap.size W (cs[i * 2 + 1]?.getD _) _
    rw [h1]
    show IntsAt W.heap.size W v _
    by_cases hz : i = 0
    · subst hz
      rw [nil_of_reads (show DataW.trod (fun _ => ()) Tryd.prog W 0 (fun _ => true) false n 22 [v] = some (.nil, q) from h2)]
      exact ⟨none, 0, rfl, Nat.le_refl _, fun j hj => absurd hj (Nat.not_lt_zero _)⟩
    · unfold shpI at h2
      rw [if_neg hz] at h2
      refine ints_of_reads h2 ?_
      have : permL (i : Int) ≠ [] := fun e => by have := (permL_none (i : Int)).1 e; omega
      exact List.length_pos_iff.2 this
theorem tbs_of_laid {W : World} (h : laidMetH Tryd.prog [("keyevent/base64.values", Rows.laid_keyevent_base64_values), ("keyevent/primitive.layouts", Rows.laid_keyevent_primitive_layouts), ("keyevent/stream.shapes", Rows.laid_keyevent_stream_shapes)] W) : Tbs W := by
  rw [MakeChecks.laidMetH_plain _ _ _ (by kernel_rfl)] at h
  have h' := h
  obtain ⟨ps, ⟨_, _, _, _, _, _, _, _, _, _, ⟨g', t', cs, fuel, p, q, hg', ht', hvar, hd, ⟨g2, t2, cs2, fuel2, p2, q2, hg2, ht2, hvar2, hd2, _, _⟩, _⟩, _⟩, _⟩ := h'
  have e1 : Tryd.prog.globalNamed "keyevent/primitive.layouts" = some 0 := by kernel_rfl
  obtain rfl := Option.some.inj (e1.symm.trans hg')
  have e2 : (Tryd.prog.globals[0]?).map (·.type) = some 95 := by kernel_rfl
  obtain rfl := Option.some.inj (e2.symm.trans ht')
  have e3 : Tryd.prog.globalNamed "keyevent/stream.shapes" = some 1 := by kernel_rfl
  obtain rfl := Option.some.inj (e3.symm.trans hg2)
  have e4 : (Tryd.prog.globals[1]?).map (·.type) = some 97 := by kernel_rfl
  obtain rfl := Option.some.inj (e4.symm.trans ht2)
  refine ⟨?_, lay_of_reads hvar hd, shp_of_reads hvar2 hd2⟩
  rw [laid_is] at h
  have hT := Lib.tabIs_of_head (P := Tryd.prog) (g := 2) (t := 111) (e := 5) (n := 128) (by kernel_rfl) (by kernel_rfl) Tryd.underlying111 Tryd.underlying5 (by kernel_rfl) (by kernel_rfl) h
  intro i hi
  have hc := hT.cell (g := 2) (by kernel_rfl) i (by simp [tabL]; exact hi)
  rw [hc]
  simp [tabL, List.getD, hi]

end Go.Proofs.YtdmgmfdmakheiaaDoor

namespace Go.Proofs.YtdmgmfdmakheiaaDoor
open Go.ChangeShapes Go.WideShapes Go.ChangeAt Go.RowKit
set_option linter.unusedVariables false
theorem door_met (os : Os) (args : Array Value) : laidMetH Tryd.prog [("keyevent/base64.values", Rows.laid_keyevent_base64_values), ("keyevent/primitive.layouts", Rows.laid_keyevent_primitive_layouts), ("keyevent/stream.shapes", Rows.laid_keyevent_stream_shapes)] ((World.doorLaid Tryd.prog 1991 os).forCall (fun _ _ => 0) ⟨#[], args, []⟩).memory :=
  laidMetH_of_parts3 (fuel := 8) (laidMet_of_run' 8 (by kernel_rfl) (by kernel_rfl)) (by kernel_rfl) (by kernel_rfl)

end Go.Proofs.YtdmgmfdmakheiaaDoor
