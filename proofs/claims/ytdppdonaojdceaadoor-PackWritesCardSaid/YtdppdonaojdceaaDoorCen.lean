/- The document's bytes of a node: Head, Write, Encode. -/
import Derived.Test.YtdppdonaojdceaaDoorCw
import Derived.Test.YtdppdonaojdceaaDoorJrv
import Derived.BigQuiet
import Derived.Lib.Zigzag
namespace Go.Proofs.YtdppdonaojdceaaDoor
open Go Go.ChangeShapes Go.WideShapes Go.ChangeAt Go.RowKit
set_option linter.unusedVariables false
set_option linter.unusedSimpArgs false

theorem flat_take_succ {P : List (List UInt8)} {j : Nat} {p : List UInt8} (h : P[j]? = some p) : (P.take (j + 1)).flatten = (P.take j).flatten ++ p := by
  rw [List.take_add_one, h, List.flatten_append]
  simp
theorem flat_take_le (P : List (List UInt8)) (j : Nat) : (P.take j).flatten.length ≤ P.flatten.length := by
  conv => rhs; rw [← List.take_append_drop j P]
  rw [List.flatten_append, List.length_append]
  omega
theorem cText_bC (s : ByteArray) : bC (headL 3 s.size) ++ s = bC (cText s) := by
  apply data_inj
  rw [ByteArray.data_append, Array.toList_append, bC_data, bC_data]
  rfl
/-- A head, and the error. -/
def chS (m : Int) (n : Nat) : ByteArray := if 0 ≤ m ∧ m ≤ 7 then bC (headL m.toNat n) else ⟨#[]⟩
def chE (m : Int) : Int := if 0 ≤ m ∧ m ≤ 7 then 0 else 2
/-- The bytes of a node, and the error. -/
def csS (x : ND) : ByteArray := if validN 8 x then (if 65536 < (writeC 8 x).length then ⟨#[]⟩ else bC (writeC 8 x)) else ⟨#[]⟩
def csE (x : ND) : Int := if validN 8 x then (if 65536 < (writeC 8 x).length then 3 else 0) else 1
theorem cse_bad {x : ND} (h : validN 8 x = false) : csS x = ⟨#[]⟩ ∧ csE x = 1 := by unfold csS csE; rw [h]; exact ⟨rfl, rfl⟩
theorem cse_long {x : ND} (h : validN 8 x = true) (hl : 65536 < (writeC 8 x).length) : csS x = ⟨#[]⟩ ∧ csE x = 3 := by unfold csS csE; rw [h, if_pos rfl, if_pos rfl, if_pos hl, if_pos hl]; exact ⟨rfl, rfl⟩
theorem cse_good {x : ND} (h : validN 8 x = true) (hl : ¬ 65536 < (writeC 8 x).length) : csS x = bC (writeC 8 x) ∧ csE x = 0 := by unfold csS csE; rw [h, if_pos rfl, if_pos rfl, if_neg hl, if_neg hl]; exact ⟨rfl, rfl⟩
theorem cse_size (x : ND) : (csS x).size ≤ 65536 := by
  unfold csS
  split
  · split
    · exact Nat.zero_le _
    · rw [bC_size]; omega
  · exact Nat.zero_le _
def CEncPost (x : ND) (w : World) (e : Ending) (w' : World) : Prop := e = .returned (.tuple #[.string (csS x), .int .i64 (csE x)]) ∧ Below w.heap.size w w'
end Go.Proofs.YtdppdonaojdceaaDoor
