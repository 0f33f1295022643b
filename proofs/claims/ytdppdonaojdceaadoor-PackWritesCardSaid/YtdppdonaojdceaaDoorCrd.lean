/- The document's reader of the second serialisation: read, text. -/
import Derived.Test.YtdppdonaojdceaaDoorCen
import Derived.BigQuiet
import Derived.Deep.QuietTactic
import Derived.Laws.BitsAllLaws
import Derived.Lib.EndianBits
namespace Go.Proofs.YtdppdonaojdceaaDoor
open Go Go.ChangeShapes Go.WideShapes Go.ChangeAt Go.RowKit
set_option linter.unusedVariables false
set_option linter.unusedSimpArgs false

theorem cdrop_at {l : List UInt8} {p : Nat} {c : UInt8} (h : l[p]? = some c) : l.drop p = c :: l.drop (p + 1) := by
  have hp : p < l.length := lt_of_some h
  rw [List.drop_eq_getElem_cons hp]
  rw [List.getElem?_eq_getElem hp] at h
  rw [Option.some.inj h]
theorem or_low (N c : Nat) (hN : N * 256 < 18446744073709551616) (hc : c < 256) : bits BinOp.or IntKind.u64 ((N : Int) * 256) (c : Int) = ((N * 256 + c : Nat) : Int) := by
  have e : ((N : Int) * 256) = ((N * 256 : Nat) : Int) := by omega
  rw [e, u64_or_nat _ _ hN (by omega), Nat.or_comm, ← u64_or_nat _ _ (by omega) hN]
  have h := u64_or8 (y := (c : Int)) (x := ((N * 256 : Nat) : Int)) (by omega) (by omega) (by omega) (by omega) (by omega)
  rw [show bits BinOp.or IntKind.u64 (c : Int) ((N * 256 : Nat) : Int) = _ from h]
  omega
theorem and31 : ∀ c : UInt8, bits BinOp.and IntKind.u8 (c.toNat : Int) 31 = ((c.toNat % 32 : Nat) : Int) := by
  have : ∀ c : Fin 256, bits BinOp.and IntKind.u8 (c.1 : Int) 31 = ((c.1 % 32 : Nat) : Int) := by decide +kernel
  exact fun c => this ⟨c.toNat, c.toNat_lt⟩
theorem bigV_snoc (l : List UInt8) (c : UInt8) : bigV (l ++ [c]) = bigV l * 256 + c.toNat := by unfold bigV; rw [List.foldl_append]; rfl
theorem bigV_lt : ∀ l : List UInt8, bigV l < 256 ^ l.length
  | [] => by simp [bigV]
  | c :: t => by
    have h1 := bigV_lt t
    have h2 := c.toNat_lt
    rw [bigV_cons, List.length_cons, Nat.pow_succ]
    have h3 : c.toNat * 256 ^ t.length ≤ 255 * 256 ^ t.length := Nat.mul_le_mul_right _ (by omega)
    omega
/-- What a head says. -/
def HeadAt (l : List UInt8) (p : Nat) (m n : Nat) (q : Int) : Prop := ∀ M N t, M < 8 → N < 18446744073709551616 → l.drop p = headL M N ++ t → m = M ∧ n = N ∧ 0 ≤ q ∧ t = l.drop q.toNat
theorem headV_cases {N : Nat} (h : N < 18446744073709551616) : (headV N < 24 ∧ headK N = 0 ∧ N = headV N) ∨ (24 ≤ headV N ∧ headV N ≤ 27 ∧ headK N = 2 ^ (headV N - 24) ∧ N < 256 ^ headK N) := by
  unfold headV headK
  (repeat' split) <;> first
    | (left; omega)
    | (right; refine ⟨by decide, by decide, by decide, ?_⟩; simp only [Nat.reducePow]; omega)
theorem head_first {l : List UInt8} {p : Nat} {c : UInt8} (hc : l[p]? = some c) {M N : Nat} {t : List UInt8} (hM : M < 8) (h : l.drop p = headL M N ++ t) : c.toNat / 32 = M ∧ c.toNat % 32 = headV N ∧ l.drop (p + 1) = bigL N (headK N) ++ t := by
  rw [cdrop_at hc] at h
  unfold headL at h
  rw [List.cons_append] at h
  obtain ⟨h1, h2⟩ := List.cons.inj h
  have h3 := congrArg UInt8.toNat h1
  rw [UInt8.toNat_ofNat'] at h3
  have := headV_lt N
  exact ⟨by omega, by omega, h2⟩
end Go.Proofs.YtdppdonaojdceaaDoor
