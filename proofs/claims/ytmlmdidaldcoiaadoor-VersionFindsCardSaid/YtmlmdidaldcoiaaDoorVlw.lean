/- What version's statements share: two versions compared. -/
import Derived.Test.YtmlmdidaldcoiaaDoorVkit
import Derived.Laws.StructEq
namespace Go.Proofs.YtmlmdidaldcoiaaDoor
open Go Go.Maps Go.ChangeShapes Go.WideShapes Go.ChangeAt Go.RowKit
set_option linter.unusedVariables false
set_option linter.unusedSimpArgs false

theorem vers_guard (w : World) (op : BinOp) (x y : Operand) (xs ys : Array Value) : (eqGuard op 24 x y (.agg xs) (.agg ys)).run Tryd.prog w = .ok () w := run_eqGuard_agg w op _ x y xs ys (by kernel_rfl)
theorem vers_neq (w : World) (p : ByteArray) (a b f z : Int) : (binOp .neq 24 (.agg #[.string p, .int .i64 a, .int .i64 b, .int .i64 f, .int .i64 z]) (.agg #[.string p, .int .i64 a, .int .i64 b, .int .i64 f, .int .i64 z])).run Tryd.prog w = .ok (.bool false) w := by
  have hs : Tryd.prog.underlying 24 = some (.struct (Tryd.prog.fieldsOf 24)) := by kernel_rfl
  have hh : Tryd.prog.stoodInHeld 24 = false := by kernel_rfl
  rw [run_neq_struct, run_equalIn_agg w 9999 _ _ _ hs hh]
  have hf : (Tryd.prog.fieldsOf 24).toList = [(Tryd.prog.fieldsOf 24)[0]!, (Tryd.prog.fieldsOf 24)[1]!, (Tryd.prog.fieldsOf 24)[2]!, (Tryd.prog.fieldsOf 24)[3]!, (Tryd.prog.fieldsOf 24)[4]!] := by kernel_rfl
  rw [hf]
  have u0 := Tryd.underlying3
  have u1 := Tryd.underlying9
  simp [Op.eqFields, go_sem, u0, u1]
theorem vers_eql (w : World) (p : ByteArray) (a b f z : Int) : (binOp .eql 24 (.agg #[.string p, .int .i64 a, .int .i64 b, .int .i64 f, .int .i64 z]) (.agg #[.string p, .int .i64 a, .int .i64 b, .int .i64 f, .int .i64 z])).run Tryd.prog w = .ok (.bool true) w := by
  have hs : Tryd.prog.underlying 24 = some (.struct (Tryd.prog.fieldsOf 24)) := by kernel_rfl
  have hh : Tryd.prog.stoodInHeld 24 = false := by kernel_rfl
  rw [run_eql_struct, run_equalIn_agg w 9999 _ _ _ hs hh]
  have hf : (Tryd.prog.fieldsOf 24).toList = [(Tryd.prog.fieldsOf 24)[0]!, (Tryd.prog.fieldsOf 24)[1]!, (Tryd.prog.fieldsOf 24)[2]!, (Tryd.prog.fieldsOf 24)[3]!, (Tryd.prog.fieldsOf 24)[4]!] := by kernel_rfl
  rw [hf]
  have u0 := Tryd.underlying3
  have u1 := Tryd.underlying9
  simp [Op.eqFields, go_sem, u0, u1]
end Go.Proofs.YtmlmdidaldcoiaaDoor
