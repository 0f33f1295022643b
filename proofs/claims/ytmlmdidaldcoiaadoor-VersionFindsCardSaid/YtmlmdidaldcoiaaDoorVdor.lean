/- The door of layer 9: five variables; a version that came in. -/
import Derived.Test.YtmlmdidaldcoiaaDoorVnu
import Derived.Test.YtmlmdidaldcoiaaDoorVpr
import Derived.Stop.LaidErr
import GoSem.PinnedTables
import Derived.Lay
import Derived.KernelRfl
import Derived.ChangeArms
import Derived.Lib.LaidTab
import Derived.Lib.TrailingZeros
namespace Go.Proofs.YtmlmdidaldcoiaaDoor
open Go Go.RowKit Go.Shelf Go.Lib Go.ChangeShapes Go.WideShapes Go.ChangeAt
set_option linter.unusedVariables false

theorem own : ownKnob Tryd.prog.godebug = none := by kernel_rfl
theorem laidOut : laidOutB Tryd.prog = true := by kernel_rfl
theorem star_err : "*" ++ "errors.errorString" = "*errors.errorString" := by decide
theorem row_err : ∀ u, Tryd.prog.typeName? 3 u = some "*errors.errorString" → u = 110 := fun u h =>
  typeName_ptr_named (nm := "errors.errorString") (by rw [star_err]; kernel_rfl) (by kernel_rfl) (by decide) u (by rw [star_err]; exact h)
theorem vlaid_64 : (Rows.laid_math_bits_deBruijn64tab : DataW Unit) = tabData .u8 (Lib.deBruijn64tab.map Int.ofNat) := by kernel_rfl
theorem v5_of_laid {w : World} (h : laidMetH Tryd.prog [("math/bits.deBruijn32tab", Rows.laid_math_bits_deBruijn32tab), ("math/bits.deBruijn64tab", Rows.laid_math_bits_deBruijn64tab), ("internal/strconv.uint64pow10", Rows.laid_internal_strconv_uint64pow10), ("strconv.ErrRange", Rows.laid_strconv_ErrRange), ("strconv.ErrSyntax", Rows.laid_strconv_ErrSyntax)] w) : DB w ∧ VErr w := by
  rw [MakeChecks.laidMetH_plain _ _ _ (by kernel_rfl)] at h
  obtain ⟨b, sb, hvb, -, -, -⟩ := laid_sentinel h.tail.tail.tail.tail (g := 1) (ti := 62) (tp := 110) (te := 112) (ts := 9) (by kernel_rfl) (by kernel_rfl) Tryd.underlying62 row_err Tryd.underlying110 Tryd.underlying112 rfl rfl Tryd.underlying9 (by kernel_rfl) (by kernel_rfl)
  have e1 : w.cell? ⟨1, 0, none⟩ = some (.iface 110 (.pointer (some b))) := by
    have := World.var?_cell (g := 1) (by kernel_rfl) hvb 0
    simpa using this
  have h2 := h.tail
  rw [vlaid_64] at h2
  have ht : TabIs Tryd.prog w "math/bits.deBruijn64tab" .u8 (Lib.deBruijn64tab.map Int.ofNat) := tabIs_of_head (g := 5) (t := 114) (e := 5) (n := 64) (by kernel_rfl) (by kernel_rfl) Tryd.underlying114 Tryd.underlying5 (by kernel_rfl) (by kernel_rfl) h2
  have e2 := World.var?_cell (g := 5) (by kernel_rfl) ht 15
  exact ⟨e2.trans (by kernel_rfl), _, _, e1⟩
theorem door_met5v (os : Os) (args : Array Value) : laidMetH Tryd.prog [("math/bits.deBruijn32tab", Rows.laid_math_bits_deBruijn32tab), ("math/bits.deBruijn64tab", Rows.laid_math_bits_deBruijn64tab), ("internal/strconv.uint64pow10", Rows.laid_internal_strconv_uint64pow10), ("strconv.ErrRange", Rows.laid_strconv_ErrRange), ("strconv.ErrSyntax", Rows.laid_strconv_ErrSyntax)] ((World.laidAll Tryd.prog os [("math/bits.deBruijn32tab", Rows.laid_math_bits_deBruijn32tab), ("math/bits.deBruijn64tab", Rows.laid_math_bits_deBruijn64tab), ("internal/strconv.uint64pow10", Rows.laid_internal_strconv_uint64pow10), ("strconv.ErrRange", Rows.laid_strconv_ErrRange), ("strconv.ErrSyntax", Rows.laid_strconv_ErrSyntax)]).forCall (fun _ _ => 0) ⟨#[], args, []⟩).memory := by
  rw [MakeChecks.laidMetH_plain _ _ _ (by kernel_rfl)]
  exact laidMet_laidAll _ (by kernel_rfl) (by kernel_rfl)
theorem five_list {α : Type} {l : List α} (h : l.length = 5) : ∃ a b c d e, l = [a, b, c, d, e] := by
  match l, h with
  | [a, b, c, d, e], _ => exact ⟨a, b, c, d, e, rfl⟩
theorem vers_open {H : Type} {enc : TypeId × Value → H} {W : World} {fuel : Nat} {cs : List Value} {d : DataW H} {p : List MemPlace} (h : DataW.trod enc Tryd.prog W 0 (fun _ => true) true fuel 24 cs = some (d, p)) : ∃ R : VD, cs.toArray = vcs R ∧ WideV R := by
  have k3 : Tryd.prog.cellsOf 3 = 1 := by kernel_rfl
  have k9 : Tryd.prog.cellsOf 9 = 1 := by kernel_rfl
  have kN : Tryd.prog.cellsOf 24 = 5 := by kernel_rfl
  obtain ⟨xs, n, hfu, hx, hlen, hxl, hall⟩ := DataW.trod_struct Tryd.underlying24 h
  rw [kN] at hlen
  obtain ⟨c0, c1, c2, c3, c4, rfl⟩ := five_list hlen
  obtain ⟨y0, y1, y2, y3, y4, rfl⟩ := five_list (show xs.length = 5 from hxl)
  have t0 : DataW.trod enc Tryd.prog W 0 (fun _ => true) true n 9 (([c0, c1, c2, c3, c4].drop 0).take (Tryd.prog.cellsOf 9)) = some y0 := hall 0 _ rfl
  rw [k9] at t0
  have t1 : DataW.trod enc Tryd.prog W 0 (fun _ => true) true n 3 (([c0, c1, c2, c3, c4].drop 1).take (Tryd.prog.cellsOf 3)) = some y1 := hall 1 _ rfl
  have t2 : DataW.trod enc Tryd.prog W 0 (fun _ => true) true n 3 (([c0, c1, c2, c3, c4].drop 2).take (Tryd.prog.cellsOf 3)) = some y2 := hall 2 _ rfl
  have t3 : DataW.trod enc Tryd.prog W 0 (fun _ => true) true n 3 (([c0, c1, c2, c3, c4].drop 3).take (Tryd.prog.cellsOf 3)) = some y3 := hall 3 _ rfl
  have t4 : DataW.trod enc Tryd.prog W 0 (fun _ => true) true n 3 (([c0, c1, c2, c3, c4].drop 4).take (Tryd.prog.cellsOf 3)) = some y4 := hall 4 _ rfl
  rw [k3] at t1 t2 t3 t4
  clear hall
  obtain ⟨z0, q0, r0, w0⟩ := DataW.trod_string Tryd.underlying9 (show DataW.trod enc Tryd.prog W 0 (fun _ => true) true n 9 [c0] = some y0 from t0)
  obtain ⟨z1, q1, r1, w1⟩ := DataW.trod_int Tryd.underlying3 (show DataW.trod enc Tryd.prog W 0 (fun _ => true) true n 3 [c1] = some y1 from t1)
  obtain ⟨z2, q2, r2, w2⟩ := DataW.trod_int Tryd.underlying3 (show DataW.trod enc Tryd.prog W 0 (fun _ => true) true n 3 [c2] = some y2 from t2)
  obtain ⟨z3, q3, r3, w3⟩ := DataW.trod_int Tryd.underlying3 (show DataW.trod enc Tryd.prog W 0 (fun _ => true) true n 3 [c3] = some y3 from t3)
  obtain ⟨z4, q4, r4, w4⟩ := DataW.trod_int Tryd.underlying3 (show DataW.trod enc Tryd.prog W 0 (fun _ => true) true n 3 [c4] = some y4 from t4)
  cases q0; cases q1; cases q2; cases q3; cases q4
  exact ⟨⟨z0, z1, z2, z3, z4⟩, rfl, bounds_i64 w1, bounds_i64 w2, bounds_i64 w3, bounds_i64 w4⟩
end Go.Proofs.YtmlmdidaldcoiaaDoor
