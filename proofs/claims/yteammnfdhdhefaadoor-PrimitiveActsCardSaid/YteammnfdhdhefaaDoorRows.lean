/-
  NARROWER THAN 'FOR EVERY INPUT', by the rows' own cells (each row's printed sentence says how): PrimitiveActs: laid · PrimitiveBack: laid · PrimitiveRows: laid · PrimitiveOnce: laid · PrimitiveOpens: laid · PrimitiveSizes: laid.
  DERIVED. THE GIVEN ROWS OF THIS SEAT. 6 by the template 'for every input the law returns true; each argument reads behind the call as it read before'; 0 by the template 'total and deterministic' (their statements: YteammnfdhdhefaaDoorTotals.lean).
  GIVEN WITH THE SEED: the statements are not yours to turn. If you find one false, say at which input.
  Laid BY PROGRAM, IN A SANDBOX (cutbox-rows.mjs): the forced cells as the released guide's own fill.sh prints them over the translation b496d0a7c9433f2a… (all of the seat's roots in one cut). By AI agents, Wed Nov 11 2026. No macro, syntax, notation, axiom, sorry.
-/
import Derived.Test.YteammnfdhdhefaaDoorChecked
import GoSem.Claim
import GoSem.ClaimJoined
import GoSem.ClaimMapViews
import Derived.JoinedTies
import Derived.KernelRfl
namespace Go.Proofs.YteammnfdhdhefaaDoor
/- THE CELL 'sum', in the pinned program and in every row, IS THE sha256 OF THE DUMP (.gsa) THAT YteammnfdhdhefaaDoorProg.lean LOADS. Nothing in Lean hashes anything: it is a label: what it is worth is what the hold of that sum in a sandbox is worth. -/
noncomputable def Tryd.pinned : Pinned := { name := "yteammnfdhdhefaadoor", sum := "b496d0a7c9433f2a3726f417964bd586f639d0dd70be0cedd5905069cec786f6", checked := Tryd.checked }
namespace Rows
def none {H : Type} : Left H := { results := [], args := [] }

/- WHAT THE LISTED PACKAGE-LEVEL VARIABLES READ AS WHEN THE CALL BEGINS. Each datum BY PROGRAM (the guide's laid-datum.mjs) off the statement by which the dump's own 'gosem.cut.vars' lays the variable. In a bare row this is a premise. The card (YteammnfdhdhefaaDoorCards.lean) ties it to the program's text. -/
def laid_keyevent_base64_values {H : Type} : DataW H := .agg [.lit (.int .u8 0), .lit (.int .u8 0), .lit (.int .u8 0), .lit (.int .u8 0), .lit (.int .u8 0), .lit (.int .u8 0), .lit (.int .u8 0), .lit (.int .u8 0), .lit (.int .u8 0), .lit (.int .u8 0), .lit (.int .u8 0), .lit (.int .u8 0), .lit (.int .u8 0), .lit (.int .u8 0), .lit (.int .u8 0), .lit (.int .u8 0), .lit (.int .u8 0), .lit (.int .u8 0), .lit (.int .u8 0), .lit (.int .u8 0), .lit (.int .u8 0), .lit (.int .u8 0), .lit (.int .u8 0), .lit (.int .u8 0), .lit (.int .u8 0), .lit (.int .u8 0), .lit (.int .u8 0), .lit (.int .u8 0), .lit (.int .u8 0), .lit (.int .u8 0), .lit (.int .u8 0), .lit (.int .u8 0), .lit (.int .u8 0), .lit (.int .u8 0), .lit (.int .u8 0), .lit (.int .u8 0), .lit (.int .u8 0), .lit (.int .u8 0), .lit (.int .u8 0), .lit (.int .u8 0), .lit (.int .u8 0), .lit (.int .u8 0), .lit (.int .u8 0), .lit (.int .u8 0), .lit (.int .u8 0), .lit (.int .u8 63), .lit (.int .u8 0), .lit (.int .u8 0), .lit (.int .u8 53), .lit (.int .u8 54), .lit (.int .u8 55), .lit (.int .u8 56), .lit (.int .u8 57), .lit (.int .u8 58), .lit (.int .u8 59), .lit (.int .u8 60), .lit (.int .u8 61), .lit (.int .u8 62), .lit (.int .u8 0), .lit (.int .u8 0), .lit (.int .u8 0), .lit (.int .u8 0), .lit (.int .u8 0), .lit (.int .u8 0), .lit (.int .u8 0), .lit (.int .u8 1), .lit (.int .u8 2), .lit (.int .u8 3), .lit (.int .u8 4), .lit (.int .u8 5), .lit (.int .u8 6), .lit (.int .u8 7), .lit (.int .u8 8), .lit (.int .u8 9), .lit (.int .u8 10), .lit (.int .u8 11), .lit (.int .u8 12), .lit (.int .u8 13), .lit (.int .u8 14), .lit (.int .u8 15), .lit (.int .u8 16), .lit (.int .u8 17), .lit (.int .u8 18), .lit (.int .u8 19), .lit (.int .u8 20), .lit (.int .u8 21), .lit (.int .u8 22), .lit (.int .u8 23), .lit (.int .u8 24), .lit (.int .u8 25), .lit (.int .u8 26), .lit (.int .u8 0), .lit (.int .u8 0), .lit (.int .u8 0), .lit (.int .u8 0), .lit (.int .u8 64), .lit (.int .u8 0), .lit (.int .u8 27), .lit (.int .u8 28), .lit (.int .u8 29), .lit (.int .u8 30), .lit (.int .u8 31), .lit (.int .u8 32), .lit (.int .u8 33), .lit (.int .u8 34), .lit (.int .u8 35), .lit (.int .u8 36), .lit (.int .u8 37), .lit (.int .u8 38), .lit (.int .u8 39), .lit (.int .u8 40), .lit (.int .u8 41), .lit (.int .u8 42), .lit (.int .u8 43), .lit (.int .u8 44), .lit (.int .u8 45), .lit (.int .u8 46), .lit (.int .u8 47), .lit (.int .u8 48), .lit (.int .u8 49), .lit (.int .u8 50), .lit (.int .u8 51), .lit (.int .u8 52), .lit (.int .u8 0), .lit (.int .u8 0), .lit (.int .u8 0), .lit (.int .u8 0), .lit (.int .u8 0)]
def laid_keyevent_primitive_layouts {H : Type} : DataW H := .agg [.agg [.lit (.string []), .lit (.int .i64 0)], .agg [.lit (.string [69]), .lit (.int .i64 32)], .agg [.lit (.string [68]), .lit (.int .i64 32)], .agg [.lit (.string [66]), .lit (.int .i64 32)], .agg [.lit (.string [65]), .lit (.int .i64 32)], .agg [.lit (.string [48, 65]), .lit (.int .i64 16)], .agg [.lit (.string [77]), .lit (.int .i64 2)], .agg [.lit (.string [83]), .lit (.int .i64 626)], .agg [.lit (.string [49, 65, 65, 76]), .lit (.int .i64 6)]]

/-- 'keyeventlaw03.PrimitiveActs': WHATEVER THE INPUT: true; the input reads as it did. -/
def primitiveActsSpec : ChangeSpec := { name := "primitiveActs", fn := fun _ => fun
  | [d1, d2, d3, d4, d5, d6] => { results := [.lit (.bool true)], args := [d1, d2, d3, d4, d5, d6] }
  | _ => none }
def primitiveActsRow : OpenClaim := { program := "yteammnfdhdhefaadoor", sum := "b496d0a7c9433f2a3726f417964bd586f639d0dd70be0cedd5905069cec786f6", func := "keyevent/keyeventlaw03.PrimitiveActs", spec := "primitiveActs", named := ["keyevent/primitive.layouts", "keyevent/base64.values"], apart := false, laid := [("keyevent/base64.values", laid_keyevent_base64_values), ("keyevent/primitive.layouts", laid_keyevent_primitive_layouts)] }
def PrimitiveActsSaid : Prop := primitiveActsRow.holds Tryd.pinned (OpenSpec.ofChange primitiveActsSpec)

/-- ITS FALSE NEIGHBOUR: 'it returns false'. Refute it at one input. -/
def primitiveActsWrong : ChangeSpec := { name := "primitiveActs", fn := fun _ => fun
  | [d1, d2, d3, d4, d5, d6] => { results := [.lit (.bool false)], args := [d1, d2, d3, d4, d5, d6] }
  | _ => none }
def PrimitiveActsWrongFalsely : Prop := primitiveActsRow.holds Tryd.pinned (OpenSpec.ofChange primitiveActsWrong)

/-- 'keyeventlaw03.PrimitiveBack': WHATEVER THE INPUT: true; the input reads as it did. -/
def primitiveBackSpec : ChangeSpec := { name := "primitiveBack", fn := fun _ => fun
  | [d1, d2] => { results := [.lit (.bool true)], args := [d1, d2] }
  | _ => none }
def primitiveBackRow : OpenClaim := { program := "yteammnfdhdhefaadoor", sum := "b496d0a7c9433f2a3726f417964bd586f639d0dd70be0cedd5905069cec786f6", func := "keyevent/keyeventlaw03.PrimitiveBack", spec := "primitiveBack", named := ["keyevent/primitive.layouts", "keyevent/base64.values"], apart := false, laid := [("keyevent/base64.values", laid_keyevent_base64_values), ("keyevent/primitive.layouts", laid_keyevent_primitive_layouts)] }
def PrimitiveBackSaid : Prop := primitiveBackRow.holds Tryd.pinned (OpenSpec.ofChange primitiveBackSpec)

/-- ITS FALSE NEIGHBOUR: 'it returns false'. Refute it at one input. -/
def primitiveBackWrong : ChangeSpec := { name := "primitiveBack", fn := fun _ => fun
  | [d1, d2] => { results := [.lit (.bool false)], args := [d1, d2] }
  | _ => none }
def PrimitiveBackWrongFalsely : Prop := primitiveBackRow.holds Tryd.pinned (OpenSpec.ofChange primitiveBackWrong)

/-- 'keyeventlaw03.PrimitiveRows': WHATEVER THE INPUT: true; the input reads as it did. -/
def primitiveRowsSpec : ChangeSpec := { name := "primitiveRows", fn := fun _ => fun
  | [d] => { results := [.lit (.bool true)], args := [d] }
  | _ => none }
def primitiveRowsRow : OpenClaim := { program := "yteammnfdhdhefaadoor", sum := "b496d0a7c9433f2a3726f417964bd586f639d0dd70be0cedd5905069cec786f6", func := "keyevent/keyeventlaw03.PrimitiveRows", spec := "primitiveRows", named := ["keyevent/primitive.layouts", "keyevent/base64.values"], apart := false, laid := [("keyevent/base64.values", laid_keyevent_base64_values), ("keyevent/primitive.layouts", laid_keyevent_primitive_layouts)] }
def PrimitiveRowsSaid : Prop := primitiveRowsRow.holds Tryd.pinned (OpenSpec.ofChange primitiveRowsSpec)

/-- ITS FALSE NEIGHBOUR: 'it returns false'. Refute it at one input. -/
def primitiveRowsWrong : ChangeSpec := { name := "primitiveRows", fn := fun _ => fun
  | [d] => { results := [.lit (.bool false)], args := [d] }
  | _ => none }
def PrimitiveRowsWrongFalsely : Prop := primitiveRowsRow.holds Tryd.pinned (OpenSpec.ofChange primitiveRowsWrong)

/-- 'keyeventlaw03.PrimitiveOnce': WHATEVER THE INPUT: true; the input reads as it did. -/
def primitiveOnceSpec : ChangeSpec := { name := "primitiveOnce", fn := fun _ => fun
  | [d1, d2, d3] => { results := [.lit (.bool true)], args := [d1, d2, d3] }
  | _ => none }
def primitiveOnceRow : OpenClaim := { program := "yteammnfdhdhefaadoor", sum := "b496d0a7c9433f2a3726f417964bd586f639d0dd70be0cedd5905069cec786f6", func := "keyevent/keyeventlaw03.PrimitiveOnce", spec := "primitiveOnce", named := ["keyevent/primitive.layouts", "keyevent/base64.values"], apart := false, laid := [("keyevent/base64.values", laid_keyevent_base64_values), ("keyevent/primitive.layouts", laid_keyevent_primitive_layouts)] }
def PrimitiveOnceSaid : Prop := primitiveOnceRow.holds Tryd.pinned (OpenSpec.ofChange primitiveOnceSpec)

/-- ITS FALSE NEIGHBOUR: 'it returns false'. Refute it at one input. -/
def primitiveOnceWrong : ChangeSpec := { name := "primitiveOnce", fn := fun _ => fun
  | [d1, d2, d3] => { results := [.lit (.bool false)], args := [d1, d2, d3] }
  | _ => none }
def PrimitiveOnceWrongFalsely : Prop := primitiveOnceRow.holds Tryd.pinned (OpenSpec.ofChange primitiveOnceWrong)

/-- 'keyeventlaw03.PrimitiveOpens': WHATEVER THE INPUT: true; the input reads as it did. -/
def primitiveOpensSpec : ChangeSpec := { name := "primitiveOpens", fn := fun _ => fun
  | [d1, d2] => { results := [.lit (.bool true)], args := [d1, d2] }
  | _ => none }
def primitiveOpensRow : OpenClaim := { program := "yteammnfdhdhefaadoor", sum := "b496d0a7c9433f2a3726f417964bd586f639d0dd70be0cedd5905069cec786f6", func := "keyevent/keyeventlaw03.PrimitiveOpens", spec := "primitiveOpens", named := ["keyevent/primitive.layouts", "keyevent/base64.values"], apart := false, laid := [("keyevent/base64.values", laid_keyevent_base64_values), ("keyevent/primitive.layouts", laid_keyevent_primitive_layouts)] }
def PrimitiveOpensSaid : Prop := primitiveOpensRow.holds Tryd.pinned (OpenSpec.ofChange primitiveOpensSpec)

/-- ITS FALSE NEIGHBOUR: 'it returns false'. Refute it at one input. -/
def primitiveOpensWrong : ChangeSpec := { name := "primitiveOpens", fn := fun _ => fun
  | [d1, d2] => { results := [.lit (.bool false)], args := [d1, d2] }
  | _ => none }
def PrimitiveOpensWrongFalsely : Prop := primitiveOpensRow.holds Tryd.pinned (OpenSpec.ofChange primitiveOpensWrong)

/-- 'keyeventlaw03.PrimitiveSizes': WHATEVER THE INPUT: true; the input reads as it did. -/
def primitiveSizesSpec : ChangeSpec := { name := "primitiveSizes", fn := fun _ => fun
  | [d1, d2] => { results := [.lit (.bool true)], args := [d1, d2] }
  | _ => none }
def primitiveSizesRow : OpenClaim := { program := "yteammnfdhdhefaadoor", sum := "b496d0a7c9433f2a3726f417964bd586f639d0dd70be0cedd5905069cec786f6", func := "keyevent/keyeventlaw03.PrimitiveSizes", spec := "primitiveSizes", named := ["keyevent/primitive.layouts"], apart := false, laid := [("keyevent/primitive.layouts", laid_keyevent_primitive_layouts)] }
def PrimitiveSizesSaid : Prop := primitiveSizesRow.holds Tryd.pinned (OpenSpec.ofChange primitiveSizesSpec)

/-- ITS FALSE NEIGHBOUR: 'it returns false'. Refute it at one input. -/
def primitiveSizesWrong : ChangeSpec := { name := "primitiveSizes", fn := fun _ => fun
  | [d1, d2] => { results := [.lit (.bool false)], args := [d1, d2] }
  | _ => none }
def PrimitiveSizesWrongFalsely : Prop := primitiveSizesRow.holds Tryd.pinned (OpenSpec.ofChange primitiveSizesWrong)

/- THE SECOND FORM. 'bulk': how many values and letters a reading holds, each counted each time it is reached (what is shared counts as often as it is met; a slice's spare places count too). A statement '..UptoSaid' is the law's where the arguments, and the package variables that the reading takes, are together of bulk at most 1048576: NARROWER than '..Said'. Prove '..Said' where nothing that the law and all that it calls make is longer than what came in: it says more and counts as full. Else prove '..UptoSaid'. A law counts once. -/
mutual
def uptoBulk {H : Type} : DataW H → Nat
  | .lit (.string bytes) => bytes.length + 1
  | .lit _ => 1
  | .nil => 1
  | .ptr d => uptoBulk d + 1
  | .slice elems spare => uptoBulkAll elems + uptoBulkAll spare + 1
  | .agg parts => uptoBulkAll parts + 1
  | .iface _ d => uptoBulk d + 1
  | .map entries => uptoBulkEntries entries + 1
  | .held _ => 1
def uptoBulkAll {H : Type} : List (DataW H) → Nat
  | [] => 0
  | d :: r => uptoBulk d + uptoBulkAll r
def uptoBulkEntries {H : Type} : List (Lit × DataW H) → Nat
  | [] => 0
  | x :: r => uptoBulkEntry x + uptoBulkEntries r
def uptoBulkEntry {H : Type} : Lit × DataW H → Nat
  | (.string bytes, d) => bytes.length + uptoBulk d + 1
  | (_, d) => uptoBulk d + 1
 end
def uptoSmall : (H : Type) → List (DataW H) → Bool := fun _ ds => decide (uptoBulkAll ds ≤ 1048576)
def OpenSpec.upto (s : _root_.Go.ChangeSpec) : _root_.Go.OpenSpec := { _root_.Go.OpenSpec.ofChange s with cond := some uptoSmall }

/-- 'keyeventlaw03.PrimitiveActs', WHERE WHAT IT READS IS OF BULK AT MOST 1048576: true; the input reads as it did. -/
def primitiveActsUptoRow : OpenClaim := { program := "yteammnfdhdhefaadoor", sum := "b496d0a7c9433f2a3726f417964bd586f639d0dd70be0cedd5905069cec786f6", func := "keyevent/keyeventlaw03.PrimitiveActs", spec := "primitiveActs", named := ["keyevent/primitive.layouts", "keyevent/base64.values"], apart := false, laid := [("keyevent/base64.values", laid_keyevent_base64_values), ("keyevent/primitive.layouts", laid_keyevent_primitive_layouts)], narrowed := true }
def PrimitiveActsUptoSaid : Prop := primitiveActsUptoRow.holds Tryd.pinned (OpenSpec.upto primitiveActsSpec)

/-- 'keyeventlaw03.PrimitiveBack', WHERE WHAT IT READS IS OF BULK AT MOST 1048576: true; the input reads as it did. -/
def primitiveBackUptoRow : OpenClaim := { program := "yteammnfdhdhefaadoor", sum := "b496d0a7c9433f2a3726f417964bd586f639d0dd70be0cedd5905069cec786f6", func := "keyevent/keyeventlaw03.PrimitiveBack", spec := "primitiveBack", named := ["keyevent/primitive.layouts", "keyevent/base64.values"], apart := false, laid := [("keyevent/base64.values", laid_keyevent_base64_values), ("keyevent/primitive.layouts", laid_keyevent_primitive_layouts)], narrowed := true }
def PrimitiveBackUptoSaid : Prop := primitiveBackUptoRow.holds Tryd.pinned (OpenSpec.upto primitiveBackSpec)

/-- 'keyeventlaw03.PrimitiveRows', WHERE WHAT IT READS IS OF BULK AT MOST 1048576: true; the input reads as it did. -/
def primitiveRowsUptoRow : OpenClaim := { program := "yteammnfdhdhefaadoor", sum := "b496d0a7c9433f2a3726f417964bd586f639d0dd70be0cedd5905069cec786f6", func := "keyevent/keyeventlaw03.PrimitiveRows", spec := "primitiveRows", named := ["keyevent/primitive.layouts", "keyevent/base64.values"], apart := false, laid := [("keyevent/base64.values", laid_keyevent_base64_values), ("keyevent/primitive.layouts", laid_keyevent_primitive_layouts)], narrowed := true }
def PrimitiveRowsUptoSaid : Prop := primitiveRowsUptoRow.holds Tryd.pinned (OpenSpec.upto primitiveRowsSpec)

/-- 'keyeventlaw03.PrimitiveOnce', WHERE WHAT IT READS IS OF BULK AT MOST 1048576: true; the input reads as it did. -/
def primitiveOnceUptoRow : OpenClaim := { program := "yteammnfdhdhefaadoor", sum := "b496d0a7c9433f2a3726f417964bd586f639d0dd70be0cedd5905069cec786f6", func := "keyevent/keyeventlaw03.PrimitiveOnce", spec := "primitiveOnce", named := ["keyevent/primitive.layouts", "keyevent/base64.values"], apart := false, laid := [("keyevent/base64.values", laid_keyevent_base64_values), ("keyevent/primitive.layouts", laid_keyevent_primitive_layouts)], narrowed := true }
def PrimitiveOnceUptoSaid : Prop := primitiveOnceUptoRow.holds Tryd.pinned (OpenSpec.upto primitiveOnceSpec)

/-- 'keyeventlaw03.PrimitiveOpens', WHERE WHAT IT READS IS OF BULK AT MOST 1048576: true; the input reads as it did. -/
def primitiveOpensUptoRow : OpenClaim := { program := "yteammnfdhdhefaadoor", sum := "b496d0a7c9433f2a3726f417964bd586f639d0dd70be0cedd5905069cec786f6", func := "keyevent/keyeventlaw03.PrimitiveOpens", spec := "primitiveOpens", named := ["keyevent/primitive.layouts", "keyevent/base64.values"], apart := false, laid := [("keyevent/base64.values", laid_keyevent_base64_values), ("keyevent/primitive.layouts", laid_keyevent_primitive_layouts)], narrowed := true }
def PrimitiveOpensUptoSaid : Prop := primitiveOpensUptoRow.holds Tryd.pinned (OpenSpec.upto primitiveOpensSpec)

/-- 'keyeventlaw03.PrimitiveSizes', WHERE WHAT IT READS IS OF BULK AT MOST 1048576: true; the input reads as it did. -/
def primitiveSizesUptoRow : OpenClaim := { program := "yteammnfdhdhefaadoor", sum := "b496d0a7c9433f2a3726f417964bd586f639d0dd70be0cedd5905069cec786f6", func := "keyevent/keyeventlaw03.PrimitiveSizes", spec := "primitiveSizes", named := ["keyevent/primitive.layouts"], apart := false, laid := [("keyevent/primitive.layouts", laid_keyevent_primitive_layouts)], narrowed := true }
def PrimitiveSizesUptoSaid : Prop := primitiveSizesUptoRow.holds Tryd.pinned (OpenSpec.upto primitiveSizesSpec)

end Rows
end Go.Proofs.YteammnfdhdhefaaDoor
