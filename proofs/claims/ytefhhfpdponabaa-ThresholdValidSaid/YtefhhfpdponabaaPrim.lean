/- Primitives as plain functions: codes, sizes, texts. Nothing of the program is imported. -/
import Derived.Test.YtefhhfpdponabaaPlain
import Derived.Test.YtefhhfpdponabaaMath
namespace Go.Proofs.Ytefhhfpdponabaa
open Go
set_option linter.unusedVariables false
set_option linter.unusedSimpArgs false

/-- The characters of a code. -/
def codeL : Nat → List UInt8
  | 1 => [69] | 2 => [68] | 3 => [66] | 4 => [65] | 5 => [48, 65] | 6 => [77] | 7 => [83] | 8 => [49, 65, 65, 76] | _ => []
/-- How many raw bytes it has. -/
def rawN : Nat → Nat
  | 1 => 32 | 2 => 32 | 3 => 32 | 4 => 32 | 5 => 16 | 6 => 2 | 7 => 626 | 8 => 6 | _ => 0
def leadN (c : Nat) : Nat := (3 - rawN c % 3) % 3
/-- The length of its text. -/
def sizeN : Nat → Nat
  | 1 => 44 | 2 => 44 | 3 => 44 | 4 => 44 | 5 => 24 | 6 => 4 | 7 => 836 | 8 => 12 | _ => 0
theorem eight_codes {c : Nat} (h1 : 1 ≤ c) (h8 : c ≤ 8) : c = 1 ∨ c = 2 ∨ c = 3 ∨ c = 4 ∨ c = 5 ∨ c = 6 ∨ c = 7 ∨ c = 8 := by omega
theorem lead_code (c : Nat) (h1 : 1 ≤ c) (h8 : c ≤ 8) : (codeL c).length = (if leadN c = 0 then 4 else leadN c) := by
  rcases eight_codes h1 h8 with rfl | rfl | rfl | rfl | rfl | rfl | rfl | rfl <;> rfl
theorem size_code (c : Nat) (h1 : 1 ≤ c) (h8 : c ≤ 8) : (codeL c).length + (leadN c + rawN c) / 3 * 4 = sizeN c + leadN c := by
  rcases eight_codes h1 h8 with rfl | rfl | rfl | rfl | rfl | rfl | rfl | rfl <;> rfl
theorem lead_raw (c : Nat) : (leadN c + rawN c) % 3 = 0 := by unfold leadN; omega
theorem lead_le (c : Nat) : leadN c ≤ 2 := by unfold leadN; omega
/-- The text of raw bytes under a code. -/
def textL (c : Nat) (raw : List UInt8) : List UInt8 := codeL c ++ (encL (List.replicate (leadN c) 0 ++ raw)).drop (leadN c)
theorem textL_length (c : Nat) (h1 : 1 ≤ c) (h8 : c ≤ 8) (raw : List UInt8) (h : raw.length = rawN c) : (textL c raw).length = sizeN c := by
  have hm := lead_raw c
  have e := encL_length ((leadN c + rawN c) / 3) (List.replicate (leadN c) 0 ++ raw) (by simp [h]; omega)
  have hs := size_code c h1 h8
  have hl := lead_le c
  unfold textL
  rw [List.length_append, List.length_drop, e]
  have : leadN c ≤ 4 * ((leadN c + rawN c) / 3) := by
    rcases eight_codes h1 h8 with rfl | rfl | rfl | rfl | rfl | rfl | rfl | rfl <;> decide
  omega

end Go.Proofs.Ytefhhfpdponabaa
