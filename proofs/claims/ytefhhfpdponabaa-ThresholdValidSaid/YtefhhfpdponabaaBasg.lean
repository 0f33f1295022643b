/- The contract of Decode of package base64. -/
import Derived.Test.YtefhhfpdponabaaBasf
namespace Go.Proofs.Ytefhhfpdponabaa
open Go.ChangeShapes Go.WideShapes Go.ChangeAt Go.RowKit
set_option linter.unusedVariables false
set_option linter.unusedSimpArgs false



/-- What Decode returns for a text of fours. -/
def decS (l : List UInt8) : ByteArray := if allD l = true then strL (decL l) else ⟨#[]⟩

def decE (l : List UInt8) : Int := if allD l = true then 0 else 4


/-- What Decode returns for any text. -/
def decFS (l : List UInt8) : ByteArray := if 131072 < l.length ∨ l.length % 4 ≠ 0 then ⟨#[]⟩ else decS l
def decFE (l : List UInt8) : Int := if 131072 < l.length then 3 else if l.length % 4 ≠ 0 then 8 else decE l
/-- What Parse returns for any text. -/
def parN (l : List UInt8) : Int := if l.length < 1 ∨ 8 < l.length then 0 else (rnum l : Int)
def parE (l : List UInt8) : Int := if l.length < 1 ∨ 8 < l.length then 8 else if allD l = true then 0 else 4
/-- What Number returns for any numbers. -/
def numS (n k : Int) : ByteArray := if k < 1 ∨ 8 < k ∨ n < 0 ∨ (64 : Int) ^ k.toNat ≤ n then ⟨#[]⟩ else strL (digsL n.toNat k.toNat)
def numE (n k : Int) : Int := if k < 1 ∨ 8 < k ∨ n < 0 ∨ (64 : Int) ^ k.toNat ≤ n then 2 else 0
/-- What Digit returns for any number. -/
def digF (n : Int) : Int := if n < 0 ∨ 64 ≤ n then 0 else ((dig n.toNat).toNat : Int)
def digE (n : Int) : Int := if n < 0 ∨ 64 ≤ n then 2 else 0

theorem len_is (s : ByteArray) : s.data.toList.length = s.size := by rw [Array.length_toList]; rfl





end Go.Proofs.Ytefhhfpdponabaa
