/- The sanity check of the statements of cbor. -/
import Derived.Test.YtgkbijgknacccaaDoorCwl
import Derived.Test.YtgkbijgknacccaaDoorCpr
namespace Go.Proofs.YtgkbijgknacccaaDoor
open Go Go.ChangeShapes Go.WideShapes Go.ChangeAt Go.RowKit
set_option linter.unusedVariables false
set_option linter.unusedSimpArgs false

set_option maxHeartbeats 1600000 in
set_option maxRecDepth 100000 in
theorem awake7_any (w : World) (hT : Utab w) : Calls Tryd.prog 9 #[] w fun e w' => e = .returned (.bool true) ∧ Below w.heap.size w w' := by
  have E1 := Lib.hid (cenc_any [.int .i64 2, .bool false, .int .i64 24, .string ⟨#[]⟩, .slice none 0 0, .slice none 0 0] (.mk 2 false 24 ⟨#[]⟩ [] []) w (node_leaf (fun b => b < w.heap.size) w 2 false 24 ⟨#[]⟩ (by decide)) (fun b h => h) (clowV (d := 8) (by decide +kernel) 1) (fun _ => by decide +kernel) hT)
  have E2 := Lib.hid (fun (wx : World) (hb : Below w.heap.size w wx) => cenc_any [.int .i64 3, .bool false, .int .i64 0, .string ⟨#[97]⟩, .slice none 0 0, .slice none 0 0] (.mk 3 false 0 ⟨#[97]⟩ [] []) wx (node_leaf (fun b => b < wx.heap.size) wx 3 false 0 ⟨#[97]⟩ (by decide)) (fun b h => h) (clowV (d := 8) (by decide +kernel) 1) (fun _ => by decide +kernel) (hT.below hb))
  unfold CEncPost at E1 E2
  rw [awkC1.1, awkC1.2] at E1
  rw [awkC2.1, awkC2.2] at E2
  have es1 : (ByteArray.toList { data := #[24, 24] } == ByteArray.toList { data := #[24, 24] }) = true := beq_self_eq_true _
  have es2 : (ByteArray.toList { data := #[97, 97] } == ByteArray.toList { data := #[97, 97] }) = true := beq_self_eq_true _
  go_enter Tryd.func9, Tryd.ntmps9
  go_upto_region 2 with (go_at_call 14; (with_reducible refine (E1.out).mono ?_); rintro e w1 ⟨rfl, hb1⟩)
  go_wp2_with (go_at_call 14; (with_reducible refine (E2.out _ hb1).mono ?_); rintro e w2 ⟨rfl, hb2⟩)
  go_ret
  exact ⟨rfl, hb1.trans (hb2.mono hb1.size)⟩
end Go.Proofs.YtgkbijgknacccaaDoor
