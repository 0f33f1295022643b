/- Contracts of the functions of package base64 (Value, Digit, appendDigits, readDigits, Encode, Decode, Number, Parse): what each returns, and that it changes no old memory. The table of values must read as the program lays it. Then: Contracts of Encode, Decode, Number and Parse of package base64. Then: The contract of Decode of package base64. -/
import Derived.Test.YtdppdonaojdceaaDoorRows
import Derived.Test.YtdppdonaojdceaaDoorPrim
import Derived.Test.YtdppdonaojdceaaDoorMem
import Derived.WalkKit
import Derived.ProofKit
import Derived.OpenShut
import Derived.WalkSpells
import Derived.WalkLawsBesides
import Derived.Outline
import Derived.Lib.Hide
namespace Go.Proofs.YtdppdonaojdceaaDoor
open Go.ChangeShapes Go.WideShapes Go.ChangeAt Go.RowKit
set_option linter.unusedVariables false
set_option linter.unusedSimpArgs false


/-- What Value returns for the character c. -/
def vnum (c : Nat) : Int := (val1 c - 1 : Nat)

def vis (c : Nat) : Bool := decide (val1 c ≠ 0)


/-- The program's constant has the digits. -/
theorem alph_get (m : Nat) (h : m < ByteArray.size { data := #[65, 66, 67, 68, 69, 70, 71, 72, 73, 74, 75, 76, 77, 78, 79, 80, 81, 82, 83, 84, 85, 86, 87, 88, 89, 90, 97, 98, 99, 100, 101, 102, 103, 104, 105, 106, 107, 108, 109, 110, 111, 112, 113, 114, 115, 116, 117, 118, 119, 120, 121, 122, 48, 49, 50, 51, 52, 53, 54, 55, 56, 57, 45, 95] }) : ({ data := #[65, 66, 67, 68, 69, 70, 71, 72, 73, 74, 75, 76, 77, 78, 79, 80, 81, 82, 83, 84, 85, 86, 87, 88, 89, 90, 97, 98, 99, 100, 101, 102, 103, 104, 105, 106, 107, 108, 109, 110, 111, 112, 113, 114, 115, 116, 117, 118, 119, 120, 121, 122, 48, 49, 50, 51, 52, 53, 54, 55, 56, 57, 45, 95] } : ByteArray)[m]'h = dig m := by
  have all : ∀ m : Fin 64, ({ data := #[65, 66, 67, 68, 69, 70, 71, 72, 73, 74, 75, 76, 77, 78, 79, 80, 81, 82, 83, 84, 85, 86, 87, 88, 89, 90, 97, 98, 99, 100, 101, 102, 103, 104, 105, 106, 107, 108, 109, 110, 111, 112, 113, 114, 115, 116, 117, 118, 119, 120, 121, 122, 48, 49, 50, 51, 52, 53, 54, 55, 56, 57, 45, 95] } : ByteArray)[m.val]'(m.isLt) = dig m.val := by decide
  exact all ⟨m, h⟩



theorem Tryd.info5 : (Tryd.prog.info? 5).map (fun i => (i.zero, i.size, i.bytes)) = some (some (.int .u8 0), 1, 1) := by kernel_rfl

theorem i64_and63 (n : Int) : bits .and .i64 n 63 = n % 64 := by
  have h127 : (BitVec.ofInt 64 63).toNat = 2 ^ 6 - 1 := by decide
  have key : (BitVec.ofInt 64 n &&& BitVec.ofInt 64 63).toNat = (n % ((2 ^ 64 : Nat) : Int)).toNat % 2 ^ 6 := by
    rw [BitVec.toNat_and, BitVec.toNat_ofInt, h127, Nat.and_two_pow_sub_one_eq_mod]
  show IntKind.i64.wrap ((BitVec.ofInt 64 n &&& BitVec.ofInt 64 63).toNat : Nat) = n % 64
  rw [key, IntKind.wrap_i64]
  omega




theorem wraps_i64 (n : Int) (h₀ : 0 ≤ n) (h₁ : n < 2 ^ 62) : IntKind.i64.wrap n = n := by rw [IntKind.wrap_i64]; omega

theorem or6 (x v : Nat) (hx : x < 2 ^ 50) (hv : v < 64) : bits BinOp.or IntKind.i64 ((x : Int) * 64) (v : Int) = ((x * 64 + v : Nat) : Int) := by
  rw [bits_join .i64 62 (by decide) wraps_i64 6 _ _ (by omega) (by omega) (by omega) (by omega) (by omega) (by omega)]
  simp


end Go.Proofs.YtdppdonaojdceaaDoor

namespace Go.Proofs.YtdppdonaojdceaaDoor
open Go.ChangeShapes Go.WideShapes Go.ChangeAt Go.RowKit
set_option linter.unusedVariables false
set_option linter.unusedSimpArgs false

/-- A list of bytes as a string. -/
def strL (l : List UInt8) : ByteArray := ⟨l.toArray⟩











theorem or16 (x y : Nat) (hx : x < 256) (hy : y < 256) : bits BinOp.or IntKind.i64 ((x : Int) * 65536) ((y : Int) * 256) = ((x * 65536 + y * 256 : Nat) : Int) := by
  rw [bits_join .i64 62 (by decide) wraps_i64 16 _ _ (by omega) (by omega) (by omega) (by omega) (by omega) (by omega)]
  simp

theorem or8 (x y : Nat) (hx : x < 16777216) (hx' : x % 256 = 0) (hy : y < 256) : bits BinOp.or IntKind.i64 (x : Int) (y : Int) = ((x + y : Nat) : Int) := by
  rw [bits_join .i64 62 (by decide) wraps_i64 8 _ _ (by omega) (by omega) (by omega) (by omega) (by omega) (by omega)]
  simp


/-- What Encode returns for any bytes. -/
def encS (l : List UInt8) : ByteArray := if 65536 < l.length ∨ l.length % 3 ≠ 0 then ⟨#[]⟩ else strL (encL l)
def encE (l : List UInt8) : Int := if 65536 < l.length then 3 else if l.length % 3 ≠ 0 then 8 else 0


end Go.Proofs.YtdppdonaojdceaaDoor

namespace Go.Proofs.YtdppdonaojdceaaDoor
open Go.ChangeShapes Go.WideShapes Go.ChangeAt Go.RowKit
set_option linter.unusedVariables false
set_option linter.unusedSimpArgs false



/-- What Decode returns for a text of fours. -/
def decS (l : List UInt8) : ByteArray := if allD l = true then strL (decL l) else ⟨#[]⟩

def decE (l : List UInt8) : Int := if allD l = true then 0 else 4


/-- What Decode returns for any text. -/
def decFS (l : List UInt8) : ByteArray := if 131072 < l.length ∨ l.length % 4 ≠ 0 then ⟨#[]⟩ else decS l
def decFE (l : List UInt8) : Int := if 131072 < l.length then 3 else if l.length % 4 ≠ 0 then 8 else decE l
/-- What Parse returns for any text. -/
def parN (l : List UInt8) : Int := if l.length < 1 ∨ 8 < l.length then 0 else (rnum l : Int)
def parE (l : List UInt8) : Int := if l.length < 1 ∨ 8 < l.length then 8 else if allD l = true then 0 else 4
/-- What Number returns for any numbers. -/
def numS (n k : Int) : ByteArray := if k < 1 ∨ 8 < k ∨ n < 0 ∨ (64 : Int) ^ k.toNat ≤ n then ⟨#[]⟩ else strL (digsL n.toNat k.toNat)
def numE (n k : Int) : Int := if k < 1 ∨ 8 < k ∨ n < 0 ∨ (64 : Int) ^ k.toNat ≤ n then 2 else 0
/-- What Digit returns for any number. -/
def digF (n : Int) : Int := if n < 0 ∨ 64 ≤ n then 0 else ((dig n.toNat).toNat : Int)
def digE (n : Int) : Int := if n < 0 ∨ 64 ≤ n then 2 else 0

theorem len_is (s : ByteArray) : s.data.toList.length = s.size := by rw [Array.length_toList]; rfl





end Go.Proofs.YtdppdonaojdceaaDoor
