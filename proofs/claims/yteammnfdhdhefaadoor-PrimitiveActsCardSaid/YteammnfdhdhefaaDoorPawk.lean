/- The sanity check of the statements of primitive: the text of a digest of 32 zeros; strings of zeros. -/
import Derived.Test.YteammnfdhdhefaaDoorQenc
namespace Go.Proofs.YteammnfdhdhefaaDoor
open Go.ChangeShapes Go.WideShapes Go.ChangeAt Go.RowKit
set_option linter.unusedVariables false
set_option linter.unusedSimpArgs false

/-- 'string(make([]byte, n))'. -/
theorem zeros_string {w1 : World} {B N : Nat} {v : Value} (h : w1.ownsRow B 5 1 v N (madeCells (Value.int .u8 0).cells (N * 1)).toList) : (convert 49 9 v).run Tryd.prog w1 = .ok (.string ⟨(List.replicate N (0 : UInt8)).toArray⟩) w1 := by
  rw [show (Value.int .u8 0).cells = #[.int .u8 0] from rfl, toList_madeCells_one, Nat.mul_one] at h
  exact conv_owns (P := Tryd.prog) w1 49 9 5 B N v (List.replicate N 0) (by simpa using h) Tryd.underlying49 Tryd.underlying5 Tryd.underlying9
theorem zeros_size (N : Nat) : (⟨(List.replicate N (0 : UInt8)).toArray⟩ : ByteArray).size = N := by show (List.replicate N (0 : UInt8)).toArray.size = N; simp

theorem awake_text : primS 1 ⟨(List.replicate 32 (0 : UInt8)).toArray⟩ = { data := #[69, 65, 65, 65, 65, 65, 65, 65, 65, 65, 65, 65, 65, 65, 65, 65, 65, 65, 65, 65, 65, 65, 65, 65, 65, 65, 65, 65, 65, 65, 65, 65, 65, 65, 65, 65, 65, 65, 65, 65, 65, 65, 65, 65] } := by
  decide +kernel
set_option maxRecDepth 100000 in
theorem awake3_any (w : World) (hL : Lay w) : Calls Tryd.prog 10 #[] w fun e w' => e = .returned (.bool true) ∧ Below w.heap.size w w' := by
  obtain ⟨i0, hi, hz0, hz1, hz2⟩ := info_parts Tryd.info5
  have M := Lib.hid (fun (wx : World) (hx : Lay wx) => ymake_any 1 ⟨(List.replicate 32 (0 : UInt8)).toArray⟩ wx (by rw [zeros_size]; decide) hx)
  rw [awake_text] at M
  obtain ⟨z, hz⟩ : ∃ z : ByteArray, z = ⟨(List.replicate 32 (0 : UInt8)).toArray⟩ := ⟨_, rfl⟩
  rw [← hz] at M
  have C1 : Hid (∀ (w1 : World) (B : Nat) (v : Value), w1.ownsRow B 5 1 v 32 (madeCells (Value.int .u8 0).cells (32 * 1)).toList → (convert 49 9 v).run Tryd.prog w1 = .ok (.string z) w1) := Lib.hid (fun w1 B v h => by rw [hz]; exact zeros_string h)
  have HL := Lib.hid hL
  clear hz hL
  go_enter Tryd.func10, Tryd.ntmps10
  go_wp2_with (first
    | (at_make; refine wpList_make_full _ rfl _ _ 49 rfl _ 5 i0 (.int .u8 0) 1 Tryd.underlying49 hi hz0 hz1 .i64 .i64 _ _ 32 rfl rfl rfl rfl (by rw [hz2]; decide) (by unfold maxLen; decide) (Nat.le_refl _) ?_; intro w1 hown hgrow; have b1 := (Below.refl w.heap.size w).grown hgrow (Nat.le_refl _) (fun _ e => by cases e); have hcv := C1.out _ _ _ hown; have L1 := Lib.hid (HL.out.go b1); clear hown hgrow)
    | (go_at_call 15; (with_reducible refine (M.out _ L1.out).mono ?_); rintro e w2 ⟨rfl, hb2⟩))
  go_ret
  exact ⟨rfl, b1.trans (hb2.mono b1.size)⟩

end Go.Proofs.YteammnfdhdhefaaDoor
