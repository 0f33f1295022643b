/- Contracts of Encode, Decode, Number and Parse of package base64. -/
import Derived.Test.YtefhhfpdponabaaBase
namespace Go.Proofs.Ytefhhfpdponabaa
open Go.ChangeShapes Go.WideShapes Go.ChangeAt Go.RowKit
set_option linter.unusedVariables false
set_option linter.unusedSimpArgs false

/-- A list of bytes as a string. -/
def strL (l : List UInt8) : ByteArray := ⟨l.toArray⟩











theorem or16 (x y : Nat) (hx : x < 256) (hy : y < 256) : bits BinOp.or IntKind.i64 ((x : Int) * 65536) ((y : Int) * 256) = ((x * 65536 + y * 256 : Nat) : Int) := by
  rw [bits_join .i64 62 (by decide) wraps_i64 16 _ _ (by omega) (by omega) (by omega) (by omega) (by omega) (by omega)]
  simp

theorem or8 (x y : Nat) (hx : x < 16777216) (hx' : x % 256 = 0) (hy : y < 256) : bits BinOp.or IntKind.i64 (x : Int) (y : Int) = ((x + y : Nat) : Int) := by
  rw [bits_join .i64 62 (by decide) wraps_i64 8 _ _ (by omega) (by omega) (by omega) (by omega) (by omega) (by omega)]
  simp


/-- What Encode returns for any bytes. -/
def encS (l : List UInt8) : ByteArray := if 65536 < l.length ∨ l.length % 3 ≠ 0 then ⟨#[]⟩ else strL (encL l)
def encE (l : List UInt8) : Int := if 65536 < l.length then 3 else if l.length % 3 ≠ 0 then 8 else 0


end Go.Proofs.Ytefhhfpdponabaa
