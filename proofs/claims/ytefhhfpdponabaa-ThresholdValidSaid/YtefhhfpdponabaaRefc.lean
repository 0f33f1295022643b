/- The contract of the document's own Decode: it returns just what the program's Decode returns. -/
import Derived.Test.YtefhhfpdponabaaRefb
namespace Go.Proofs.Ytefhhfpdponabaa
open Go.ChangeShapes Go.WideShapes Go.ChangeAt Go.RowKit
set_option linter.unusedVariables false
set_option linter.unusedSimpArgs false

theorem fourL_length (l : List UInt8) (i : Nat) (h : 4 * (i + 1) ≤ l.length) : (fourL l i).length = 4 := by unfold fourL; simp; omega
theorem fourL_get (s : ByteArray) (i k : Nat) (hk : k < 4) (h : 4 * (i + 1) ≤ s.size) (h' : 4 * i + k < s.size) : (fourL s.data.toList i)[k]? = some (s[4 * i + k]'h') := by
  unfold fourL
  rw [List.getElem?_drop, List.getElem?_take, if_pos (by omega)]
  have h1 : 4 * i + k < s.data.toList.length := by rw [Array.length_toList]; exact h'
  rw [List.getElem?_eq_getElem h1]; rfl
theorem take_of_get (l : List UInt8) (k : Nat) (c : UInt8) (h : l[k]? = some c) : l.take (k + 1) = l.take k ++ [c] := by
  obtain ⟨hl, e⟩ := List.getElem?_eq_some_iff.1 h
  rw [List.take_succ_eq_append_getElem hl, e]
theorem allD_false_mem (l : List UInt8) (k : Nat) (c : UInt8) (h : l[k]? = some c) (hz : val1 c.toNat = 0) : allD l = false := by
  rw [← List.take_append_drop (k + 1) l, take_of_get l k c h]
  simp [allD, hz]


end Go.Proofs.Ytefhhfpdponabaa
