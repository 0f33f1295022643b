/-
  NARROWER THAN 'FOR EVERY INPUT', by the rows' own cells (each row's printed sentence says how): StreamActs: laid · StreamLimit: laid · StreamBack: laid · StreamMarks: laid · StreamOnce: laid.
  DERIVED. THE GIVEN ROWS OF THIS SEAT. 5 by the template 'for every input the law returns true; each argument reads behind the call as it read before'; 0 by the template 'total and deterministic' (their statements: YtdmgmfdmakheiaaDoorTotals.lean).
  GIVEN WITH THE SEED: the statements are not yours to turn. If you find one false, say at which input.
  Laid BY PROGRAM, IN A SANDBOX (cutbox-rows.mjs): the forced cells as the released guide's own fill.sh prints them over the translation 69c1b6c6e9f9431a… (all of the seat's roots in one cut). By AI agents, Wed Nov 11 2026. No macro, syntax, notation, axiom, sorry.
-/
import Derived.Test.YtdmgmfdmakheiaaDoorChecked
import GoSem.Claim
import GoSem.ClaimJoined
import GoSem.ClaimMapViews
import Derived.JoinedTies
import Derived.KernelRfl
namespace Go.Proofs.YtdmgmfdmakheiaaDoor
/- THE CELL 'sum', in the pinned program and in every row, IS THE sha256 OF THE DUMP (.gsa) THAT YtdmgmfdmakheiaaDoorProg.lean LOADS. Nothing in Lean hashes anything: it is a label: what it is worth is what the hold of that sum in a sandbox is worth. -/
noncomputable def Tryd.pinned : Pinned := { name := "ytdmgmfdmakheiaadoor", sum := "69c1b6c6e9f9431a4a14f37400436220d78be977f19223e52dc1240cfe80e2fb", checked := Tryd.checked }
namespace Rows
def none {H : Type} : Left H := { results := [], args := [] }

/- WHAT THE LISTED PACKAGE-LEVEL VARIABLES READ AS WHEN THE CALL BEGINS. Each datum BY PROGRAM (the guide's laid-datum.mjs) off the statement by which the dump's own 'gosem.cut.vars' lays the variable. In a bare row this is a premise. The card (YtdmgmfdmakheiaaDoorCards.lean) ties it to the program's text. -/
def laid_keyevent_base64_values {H : Type} : DataW H := .agg [.lit (.int .u8 0), .lit (.int .u8 0), .lit (.int .u8 0), .lit (.int .u8 0), .lit (.int .u8 0), .lit (.int .u8 0), .lit (.int .u8 0), .lit (.int .u8 0), .lit (.int .u8 0), .lit (.int .u8 0), .lit (.int .u8 0), .lit (.int .u8 0), .lit (.int .u8 0), .lit (.int .u8 0), .lit (.int .u8 0), .lit (.int .u8 0), .lit (.int .u8 0), .lit (.int .u8 0), .lit (.int .u8 0), .lit (.int .u8 0), .lit (.int .u8 0), .lit (.int .u8 0), .lit (.int .u8 0), .lit (.int .u8 0), .lit (.int .u8 0), .lit (.int .u8 0), .lit (.int .u8 0), .lit (.int .u8 0), .lit (.int .u8 0), .lit (.int .u8 0), .lit (.int .u8 0), .lit (.int .u8 0), .lit (.int .u8 0), .lit (.int .u8 0), .lit (.int .u8 0), .lit (.int .u8 0), .lit (.int .u8 0), .lit (.int .u8 0), .lit (.int .u8 0), .lit (.int .u8 0), .lit (.int .u8 0), .lit (.int .u8 0), .lit (.int .u8 0), .lit (.int .u8 0), .lit (.int .u8 0), .lit (.int .u8 63), .lit (.int .u8 0), .lit (.int .u8 0), .lit (.int .u8 53), .lit (.int .u8 54), .lit (.int .u8 55), .lit (.int .u8 56), .lit (.int .u8 57), .lit (.int .u8 58), .lit (.int .u8 59), .lit (.int .u8 60), .lit (.int .u8 61), .lit (.int .u8 62), .lit (.int .u8 0), .lit (.int .u8 0), .lit (.int .u8 0), .lit (.int .u8 0), .lit (.int .u8 0), .lit (.int .u8 0), .lit (.int .u8 0), .lit (.int .u8 1), .lit (.int .u8 2), .lit (.int .u8 3), .lit (.int .u8 4), .lit (.int .u8 5), .lit (.int .u8 6), .lit (.int .u8 7), .lit (.int .u8 8), .lit (.int .u8 9), .lit (.int .u8 10), .lit (.int .u8 11), .lit (.int .u8 12), .lit (.int .u8 13), .lit (.int .u8 14), .lit (.int .u8 15), .lit (.int .u8 16), .lit (.int .u8 17), .lit (.int .u8 18), .lit (.int .u8 19), .lit (.int .u8 20), .lit (.int .u8 21), .lit (.int .u8 22), .lit (.int .u8 23), .lit (.int .u8 24), .lit (.int .u8 25), .lit (.int .u8 26), .lit (.int .u8 0), .lit (.int .u8 0), .lit (.int .u8 0), .lit (.int .u8 0), .lit (.int .u8 64), .lit (.int .u8 0), .lit (.int .u8 27), .lit (.int .u8 28), .lit (.int .u8 29), .lit (.int .u8 30), .lit (.int .u8 31), .lit (.int .u8 32), .lit (.int .u8 33), .lit (.int .u8 34), .lit (.int .u8 35), .lit (.int .u8 36), .lit (.int .u8 37), .lit (.int .u8 38), .lit (.int .u8 39), .lit (.int .u8 40), .lit (.int .u8 41), .lit (.int .u8 42), .lit (.int .u8 43), .lit (.int .u8 44), .lit (.int .u8 45), .lit (.int .u8 46), .lit (.int .u8 47), .lit (.int .u8 48), .lit (.int .u8 49), .lit (.int .u8 50), .lit (.int .u8 51), .lit (.int .u8 52), .lit (.int .u8 0), .lit (.int .u8 0), .lit (.int .u8 0), .lit (.int .u8 0), .lit (.int .u8 0)]
def laid_keyevent_primitive_layouts {H : Type} : DataW H := .agg [.agg [.lit (.string []), .lit (.int .i64 0)], .agg [.lit (.string [69]), .lit (.int .i64 32)], .agg [.lit (.string [68]), .lit (.int .i64 32)], .agg [.lit (.string [66]), .lit (.int .i64 32)], .agg [.lit (.string [65]), .lit (.int .i64 32)], .agg [.lit (.string [48, 65]), .lit (.int .i64 16)], .agg [.lit (.string [77]), .lit (.int .i64 2)], .agg [.lit (.string [83]), .lit (.int .i64 626)], .agg [.lit (.string [49, 65, 65, 76]), .lit (.int .i64 6)]]
def laid_keyevent_stream_shapes {H : Type} : DataW H := .agg [.agg [.lit (.string []), .nil], .agg [.lit (.string [65]), .slice [.lit (.int .i64 7)] []], .agg [.lit (.string [66]), .slice [.lit (.int .i64 7)] []], .agg [.lit (.string [67]), .slice [.lit (.int .i64 3), .lit (.int .i64 7)] []], .agg [.lit (.string [71]), .slice [.lit (.int .i64 8), .lit (.int .i64 1)] []]]

/-- 'keyeventlaw04.StreamActs': WHATEVER THE INPUT: true; the input reads as it did. -/
def streamActsSpec : ChangeSpec := { name := "streamActs", fn := fun _ => fun
  | [d1, d2, d3, d4, d5, d6, d7] => { results := [.lit (.bool true)], args := [d1, d2, d3, d4, d5, d6, d7] }
  | _ => none }
def streamActsRow : OpenClaim := { program := "ytdmgmfdmakheiaadoor", sum := "69c1b6c6e9f9431a4a14f37400436220d78be977f19223e52dc1240cfe80e2fb", func := "keyevent/keyeventlaw04.StreamActs", spec := "streamActs", inPlace := ["internal/abi.NoEscape"], unfollowed := true, recurses := true, named := ["keyevent/stream.shapes", "keyevent/primitive.layouts", "keyevent/base64.values"], apart := false, laid := [("keyevent/base64.values", laid_keyevent_base64_values), ("keyevent/primitive.layouts", laid_keyevent_primitive_layouts), ("keyevent/stream.shapes", laid_keyevent_stream_shapes)] }
def StreamActsSaid : Prop := streamActsRow.holds Tryd.pinned (OpenSpec.ofChange streamActsSpec)

/-- ITS FALSE NEIGHBOUR: 'it returns false'. Refute it at one input. -/
def streamActsWrong : ChangeSpec := { name := "streamActs", fn := fun _ => fun
  | [d1, d2, d3, d4, d5, d6, d7] => { results := [.lit (.bool false)], args := [d1, d2, d3, d4, d5, d6, d7] }
  | _ => none }
def StreamActsWrongFalsely : Prop := streamActsRow.holds Tryd.pinned (OpenSpec.ofChange streamActsWrong)

/-- 'keyeventlaw04.StreamLimit': WHATEVER THE INPUT: true; the input reads as it did. -/
def streamLimitSpec : ChangeSpec := { name := "streamLimit", fn := fun _ => fun
  | [d] => { results := [.lit (.bool true)], args := [d] }
  | _ => none }
def streamLimitRow : OpenClaim := { program := "ytdmgmfdmakheiaadoor", sum := "69c1b6c6e9f9431a4a14f37400436220d78be977f19223e52dc1240cfe80e2fb", func := "keyevent/keyeventlaw04.StreamLimit", spec := "streamLimit", inPlace := ["internal/abi.NoEscape"], unfollowed := true, recurses := true, named := ["keyevent/stream.shapes", "keyevent/primitive.layouts", "keyevent/base64.values"], apart := false, laid := [("keyevent/base64.values", laid_keyevent_base64_values), ("keyevent/primitive.layouts", laid_keyevent_primitive_layouts), ("keyevent/stream.shapes", laid_keyevent_stream_shapes)] }
def StreamLimitSaid : Prop := streamLimitRow.holds Tryd.pinned (OpenSpec.ofChange streamLimitSpec)

/-- ITS FALSE NEIGHBOUR: 'it returns false'. Refute it at one input. -/
def streamLimitWrong : ChangeSpec := { name := "streamLimit", fn := fun _ => fun
  | [d] => { results := [.lit (.bool false)], args := [d] }
  | _ => none }
def StreamLimitWrongFalsely : Prop := streamLimitRow.holds Tryd.pinned (OpenSpec.ofChange streamLimitWrong)

/-- 'keyeventlaw04.StreamBack': WHATEVER THE INPUT: true; the input reads as it did. -/
def streamBackSpec : ChangeSpec := { name := "streamBack", fn := fun _ => fun
  | [d] => { results := [.lit (.bool true)], args := [d] }
  | _ => none }
def streamBackRow : OpenClaim := { program := "ytdmgmfdmakheiaadoor", sum := "69c1b6c6e9f9431a4a14f37400436220d78be977f19223e52dc1240cfe80e2fb", func := "keyevent/keyeventlaw04.StreamBack", spec := "streamBack", inPlace := ["internal/abi.NoEscape"], unfollowed := true, recurses := true, named := ["keyevent/stream.shapes", "keyevent/primitive.layouts", "keyevent/base64.values"], apart := false, laid := [("keyevent/base64.values", laid_keyevent_base64_values), ("keyevent/primitive.layouts", laid_keyevent_primitive_layouts), ("keyevent/stream.shapes", laid_keyevent_stream_shapes)] }
def StreamBackSaid : Prop := streamBackRow.holds Tryd.pinned (OpenSpec.ofChange streamBackSpec)

/-- ITS FALSE NEIGHBOUR: 'it returns false'. Refute it at one input. -/
def streamBackWrong : ChangeSpec := { name := "streamBack", fn := fun _ => fun
  | [d] => { results := [.lit (.bool false)], args := [d] }
  | _ => none }
def StreamBackWrongFalsely : Prop := streamBackRow.holds Tryd.pinned (OpenSpec.ofChange streamBackWrong)

/-- 'keyeventlaw04.StreamMarks': WHATEVER THE INPUT: true; the input reads as it did. -/
def streamMarksSpec : ChangeSpec := { name := "streamMarks", fn := fun _ => fun
  | [d1, d2] => { results := [.lit (.bool true)], args := [d1, d2] }
  | _ => none }
def streamMarksRow : OpenClaim := { program := "ytdmgmfdmakheiaadoor", sum := "69c1b6c6e9f9431a4a14f37400436220d78be977f19223e52dc1240cfe80e2fb", func := "keyevent/keyeventlaw04.StreamMarks", spec := "streamMarks", inPlace := ["internal/abi.NoEscape"], unfollowed := true, recurses := true, named := ["keyevent/stream.shapes", "keyevent/primitive.layouts", "keyevent/base64.values"], apart := false, laid := [("keyevent/base64.values", laid_keyevent_base64_values), ("keyevent/primitive.layouts", laid_keyevent_primitive_layouts), ("keyevent/stream.shapes", laid_keyevent_stream_shapes)] }
def StreamMarksSaid : Prop := streamMarksRow.holds Tryd.pinned (OpenSpec.ofChange streamMarksSpec)

/-- ITS FALSE NEIGHBOUR: 'it returns false'. Refute it at one input. -/
def streamMarksWrong : ChangeSpec := { name := "streamMarks", fn := fun _ => fun
  | [d1, d2] => { results := [.lit (.bool false)], args := [d1, d2] }
  | _ => none }
def StreamMarksWrongFalsely : Prop := streamMarksRow.holds Tryd.pinned (OpenSpec.ofChange streamMarksWrong)

/-- 'keyeventlaw04.StreamOnce': WHATEVER THE INPUT: true; the input reads as it did. -/
def streamOnceSpec : ChangeSpec := { name := "streamOnce", fn := fun _ => fun
  | [d1, d2, d3] => { results := [.lit (.bool true)], args := [d1, d2, d3] }
  | _ => none }
def streamOnceRow : OpenClaim := { program := "ytdmgmfdmakheiaadoor", sum := "69c1b6c6e9f9431a4a14f37400436220d78be977f19223e52dc1240cfe80e2fb", func := "keyevent/keyeventlaw04.StreamOnce", spec := "streamOnce", inPlace := ["internal/abi.NoEscape"], unfollowed := true, recurses := true, named := ["keyevent/stream.shapes", "keyevent/primitive.layouts", "keyevent/base64.values"], apart := false, laid := [("keyevent/base64.values", laid_keyevent_base64_values), ("keyevent/primitive.layouts", laid_keyevent_primitive_layouts), ("keyevent/stream.shapes", laid_keyevent_stream_shapes)] }
def StreamOnceSaid : Prop := streamOnceRow.holds Tryd.pinned (OpenSpec.ofChange streamOnceSpec)

/-- ITS FALSE NEIGHBOUR: 'it returns false'. Refute it at one input. -/
def streamOnceWrong : ChangeSpec := { name := "streamOnce", fn := fun _ => fun
  | [d1, d2, d3] => { results := [.lit (.bool false)], args := [d1, d2, d3] }
  | _ => none }
def StreamOnceWrongFalsely : Prop := streamOnceRow.holds Tryd.pinned (OpenSpec.ofChange streamOnceWrong)

/- THE SECOND FORM. 'bulk': how many values and letters a reading holds, each counted each time it is reached (what is shared counts as often as it is met; a slice's spare places count too). A statement '..UptoSaid' is the law's where the arguments, and the package variables that the reading takes, are together of bulk at most 1048576: NARROWER than '..Said'. Prove '..Said' where nothing that the law and all that it calls make is longer than what came in: it says more and counts as full. Else prove '..UptoSaid'. A law counts once. -/
mutual
def uptoBulk {H : Type} : DataW H → Nat
  | .lit (.string bytes) => bytes.length + 1
  | .lit _ => 1
  | .nil => 1
  | .ptr d => uptoBulk d + 1
  | .slice elems spare => uptoBulkAll elems + uptoBulkAll spare + 1
  | .agg parts => uptoBulkAll parts + 1
  | .iface _ d => uptoBulk d + 1
  | .map entries => uptoBulkEntries entries + 1
  | .held _ => 1
def uptoBulkAll {H : Type} : List (DataW H) → Nat
  | [] => 0
  | d :: r => uptoBulk d + uptoBulkAll r
def uptoBulkEntries {H : Type} : List (Lit × DataW H) → Nat
  | [] => 0
  | x :: r => uptoBulkEntry x + uptoBulkEntries r
def uptoBulkEntry {H : Type} : Lit × DataW H → Nat
  | (.string bytes, d) => bytes.length + uptoBulk d + 1
  | (_, d) => uptoBulk d + 1
 end
def uptoSmall : (H : Type) → List (DataW H) → Bool := fun _ ds => decide (uptoBulkAll ds ≤ 1048576)
def OpenSpec.upto (s : _root_.Go.ChangeSpec) : _root_.Go.OpenSpec := { _root_.Go.OpenSpec.ofChange s with cond := some uptoSmall }

/-- 'keyeventlaw04.StreamActs', WHERE WHAT IT READS IS OF BULK AT MOST 1048576: true; the input reads as it did. -/
def streamActsUptoRow : OpenClaim := { program := "ytdmgmfdmakheiaadoor", sum := "69c1b6c6e9f9431a4a14f37400436220d78be977f19223e52dc1240cfe80e2fb", func := "keyevent/keyeventlaw04.StreamActs", spec := "streamActs", inPlace := ["internal/abi.NoEscape"], unfollowed := true, recurses := true, named := ["keyevent/stream.shapes", "keyevent/primitive.layouts", "keyevent/base64.values"], apart := false, laid := [("keyevent/base64.values", laid_keyevent_base64_values), ("keyevent/primitive.layouts", laid_keyevent_primitive_layouts), ("keyevent/stream.shapes", laid_keyevent_stream_shapes)], narrowed := true }
def StreamActsUptoSaid : Prop := streamActsUptoRow.holds Tryd.pinned (OpenSpec.upto streamActsSpec)

/-- 'keyeventlaw04.StreamLimit', WHERE WHAT IT READS IS OF BULK AT MOST 1048576: true; the input reads as it did. -/
def streamLimitUptoRow : OpenClaim := { program := "ytdmgmfdmakheiaadoor", sum := "69c1b6c6e9f9431a4a14f37400436220d78be977f19223e52dc1240cfe80e2fb", func := "keyevent/keyeventlaw04.StreamLimit", spec := "streamLimit", inPlace := ["internal/abi.NoEscape"], unfollowed := true, recurses := true, named := ["keyevent/stream.shapes", "keyevent/primitive.layouts", "keyevent/base64.values"], apart := false, laid := [("keyevent/base64.values", laid_keyevent_base64_values), ("keyevent/primitive.layouts", laid_keyevent_primitive_layouts), ("keyevent/stream.shapes", laid_keyevent_stream_shapes)], narrowed := true }
def StreamLimitUptoSaid : Prop := streamLimitUptoRow.holds Tryd.pinned (OpenSpec.upto streamLimitSpec)

/-- 'keyeventlaw04.StreamBack', WHERE WHAT IT READS IS OF BULK AT MOST 1048576: true; the input reads as it did. -/
def streamBackUptoRow : OpenClaim := { program := "ytdmgmfdmakheiaadoor", sum := "69c1b6c6e9f9431a4a14f37400436220d78be977f19223e52dc1240cfe80e2fb", func := "keyevent/keyeventlaw04.StreamBack", spec := "streamBack", inPlace := ["internal/abi.NoEscape"], unfollowed := true, recurses := true, named := ["keyevent/stream.shapes", "keyevent/primitive.layouts", "keyevent/base64.values"], apart := false, laid := [("keyevent/base64.values", laid_keyevent_base64_values), ("keyevent/primitive.layouts", laid_keyevent_primitive_layouts), ("keyevent/stream.shapes", laid_keyevent_stream_shapes)], narrowed := true }
def StreamBackUptoSaid : Prop := streamBackUptoRow.holds Tryd.pinned (OpenSpec.upto streamBackSpec)

/-- 'keyeventlaw04.StreamMarks', WHERE WHAT IT READS IS OF BULK AT MOST 1048576: true; the input reads as it did. -/
def streamMarksUptoRow : OpenClaim := { program := "ytdmgmfdmakheiaadoor", sum := "69c1b6c6e9f9431a4a14f37400436220d78be977f19223e52dc1240cfe80e2fb", func := "keyevent/keyeventlaw04.StreamMarks", spec := "streamMarks", inPlace := ["internal/abi.NoEscape"], unfollowed := true, recurses := true, named := ["keyevent/stream.shapes", "keyevent/primitive.layouts", "keyevent/base64.values"], apart := false, laid := [("keyevent/base64.values", laid_keyevent_base64_values), ("keyevent/primitive.layouts", laid_keyevent_primitive_layouts), ("keyevent/stream.shapes", laid_keyevent_stream_shapes)], narrowed := true }
def StreamMarksUptoSaid : Prop := streamMarksUptoRow.holds Tryd.pinned (OpenSpec.upto streamMarksSpec)

/-- 'keyeventlaw04.StreamOnce', WHERE WHAT IT READS IS OF BULK AT MOST 1048576: true; the input reads as it did. -/
def streamOnceUptoRow : OpenClaim := { program := "ytdmgmfdmakheiaadoor", sum := "69c1b6c6e9f9431a4a14f37400436220d78be977f19223e52dc1240cfe80e2fb", func := "keyevent/keyeventlaw04.StreamOnce", spec := "streamOnce", inPlace := ["internal/abi.NoEscape"], unfollowed := true, recurses := true, named := ["keyevent/stream.shapes", "keyevent/primitive.layouts", "keyevent/base64.values"], apart := false, laid := [("keyevent/base64.values", laid_keyevent_base64_values), ("keyevent/primitive.layouts", laid_keyevent_primitive_layouts), ("keyevent/stream.shapes", laid_keyevent_stream_shapes)], narrowed := true }
def StreamOnceUptoSaid : Prop := streamOnceUptoRow.holds Tryd.pinned (OpenSpec.upto streamOnceSpec)

end Rows
end Go.Proofs.YtdmgmfdmakheiaaDoor
