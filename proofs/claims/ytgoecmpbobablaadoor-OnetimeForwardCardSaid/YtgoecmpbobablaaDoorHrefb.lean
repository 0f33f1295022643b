/- Contracts of the document's own functions of SHA-256: pad, first, constants, Sum, Pad. -/
import Derived.Test.YtgoecmpbobablaaDoorHrefa
import Derived.Test.YtgoecmpbobablaaDoorOwn
namespace Go.Proofs.YtgoecmpbobablaaDoor
open Go.ChangeShapes Go.WideShapes Go.ChangeAt Go.RowKit
set_option linter.unusedVariables false
set_option linter.unusedSimpArgs false

theorem Tryd.infou8 : (Tryd.prog.info? 5).map (fun i => (i.zero, i.size, i.bytes)) = some (some (.int .u8 0), 1, 1) := by kernel_rfl

set_option maxRecDepth 100000 in
theorem first_any (w : World) : Calls Tryd.prog 34 #[] w fun e w' => e = .returned (.agg (u32s HL).toArray) ∧ Below w.heap.size w w' := by
  go_enter Tryd.func34, Tryd.ntmps34
  have A0 := Arr.new w (zs 8) 52
  go_wp2_with (refine wp_st rfl 52 (.tmp 0) (.tmp 1) rfl _ (u32s HL) rfl rfl A0 info8 (zs_length 8) rfl (u32s_one _) ?_)
  refine bodyPost_ret (v := .agg (u32s HL).toArray) (res_arr rfl _ _ _ rfl (A0.setRow (u32s HL)) Tryd.underlying52 info8 rfl) rfl ⟨rfl, below_setRow ((Below.refl _ _).alloc (Nat.le_refl _) _) _ (Nat.le_refl _) _⟩
set_option maxHeartbeats 2000000 in
set_option maxRecDepth 100000 in
theorem constants_any (w : World) : Calls Tryd.prog 35 #[] w fun e w' => e = .returned (.agg (u32s KL).toArray) ∧ Below w.heap.size w w' := by
  go_enter Tryd.func35, Tryd.ntmps35
  have A0 := Arr.new w (zs 64) 54
  go_wp2_with (refine wp_st rfl 54 (.tmp 0) (.tmp 1) rfl _ _ rfl rfl A0 info64 (zs_length 64) rfl (by simp [Value.oneCell']) ?_)
  refine bodyPost_ret (v := .agg (u32s KL).toArray) (res_arr rfl _ _ _ rfl (A0.setRow (u32s KL)) Tryd.underlying54 info64 rfl) rfl ⟨rfl, below_setRow ((Below.refl _ _).alloc (Nat.le_refl _) _) _ (Nat.le_refl _) _⟩

end Go.Proofs.YtgoecmpbobablaaDoor
