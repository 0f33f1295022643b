/- The sanity check of the statements of pack. -/
import Derived.Test.YtdppdonaojdceaaDoorMkit
import Derived.Test.YtdppdonaojdceaaDoorMdc
import Derived.Test.YtdppdonaojdceaaDoorJrv
namespace Go.Proofs.YtdppdonaojdceaaDoor
open Go Go.ChangeShapes Go.WideShapes Go.ChangeAt Go.RowKit
set_option linter.unusedVariables false
set_option linter.unusedSimpArgs false

theorem risvalid_t {D : Nat} {S : Nat → Prop} (cs : List Value) (x : ND) (w : World) (h : NodeIn D S w cs x) (hS : ∀ b, S b → b < w.heap.size) (hl : lowV D x) (hT : Ptab w) : Calls Tryd.prog 20 #[.agg cs.toArray] w fun e w' => e = .returned (.bool (validN 8 x)) ∧ Below w.heap.size w w' := risvalid_any cs x w h hS hl hT.u
theorem mrenc_t {D : Nat} {S : Nat → Prop} (cs : List Value) (x : ND) (w : World) (h : NodeIn D S w cs x) (hS : ∀ b, S b → b < w.heap.size) (hl : lowV D x) (hw : validN 8 x = true → numsB 8 x = true ∧ (writeP 8 x).length ≤ 35184372088832) (hT : Ptab w) : Calls Tryd.prog 14 #[.agg cs.toArray] w (MEncPost x w) := mrenc_any cs x w h hS hl hw hT.u
theorem mrdec_t (s : ByteArray) (w : World) (hT : Ptab w) (hw0 : 0 < w.heap.size) : Calls Tryd.prog 18 #[.string s] w (MDecPost s w) := mrdec_any s w hT.u hw0
set_option maxHeartbeats 1600000 in
set_option maxRecDepth 100000 in
theorem awake8_any (w : World) (hT : Ptab w) : Calls Tryd.prog 8 #[] w fun e w' => e = .returned (.bool true) ∧ Below w.heap.size w w' := by
  have E1 := Lib.hid (mpenc_any [.int .i64 2, .bool false, .int .i64 128, .string ⟨#[]⟩, .slice none 0 0, .slice none 0 0] (.mk 2 false 128 ⟨#[]⟩ [] []) w (node_leaf (fun b => b < w.heap.size) w 2 false 128 ⟨#[]⟩ (by decide)) (fun b h => h) (clowV (d := 8) (by decide +kernel) 1) (fun _ => by decide +kernel) hT)
  have E2 := Lib.hid (fun (wx : World) (hb : Below w.heap.size w wx) => mpenc_any [.int .i64 2, .bool false, .int .i64 (-33), .string ⟨#[]⟩, .slice none 0 0, .slice none 0 0] (.mk 2 false (-33) ⟨#[]⟩ [] []) wx (node_leaf (fun b => b < wx.heap.size) wx 2 false (-33) ⟨#[]⟩ (by decide)) (fun b h => h) (clowV (d := 8) (by decide +kernel) 1) (fun _ => by decide +kernel) (hT.below hb))
  unfold MEncPost at E1 E2
  rw [awkM1.1, awkM1.2] at E1
  rw [awkM2.1, awkM2.2] at E2
  have es1 : (ByteArray.toList { data := #[204, 128] } == ByteArray.toList { data := #[204, 128] }) = true := beq_self_eq_true _
  have es2 : (ByteArray.toList { data := #[208, 223] } == ByteArray.toList { data := #[208, 223] }) = true := beq_self_eq_true _
  go_enter Tryd.func8, Tryd.ntmps8
  go_upto_region 2 with (go_at_call 13; (with_reducible refine (E1.out).mono ?_); rintro e w1 ⟨rfl, hb1⟩)
  go_wp2_with (go_at_call 13; (with_reducible refine (E2.out _ hb1).mono ?_); rintro e w2 ⟨rfl, hb2⟩)
  go_ret
  exact ⟨rfl, hb1.trans (hb2.mono hb1.size)⟩
end Go.Proofs.YtdppdonaojdceaaDoor
