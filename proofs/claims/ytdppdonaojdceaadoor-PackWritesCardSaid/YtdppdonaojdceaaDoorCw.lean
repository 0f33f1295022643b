/- The document's heads: big, head, Head. -/
import Derived.Test.YtdppdonaojdceaaDoorCinj
import Derived.Test.YtdppdonaojdceaaDoorPlan
import Derived.Test.YtdppdonaojdceaaDoorNst
import Derived.Deep.AppendLies
namespace Go.Proofs.YtdppdonaojdceaaDoor
open Go Go.ChangeShapes Go.WideShapes Go.ChangeAt Go.RowKit
set_option linter.unusedVariables false
set_option linter.unusedSimpArgs false

/-- A string of bytes. -/
def bC (l : List UInt8) : ByteArray := ⟨l.toArray⟩
theorem bC_data (l : List UInt8) : (bC l).data.toList = l := by simp [bC]
theorem bC_size (l : List UInt8) : (bC l).size = l.length := by simp [bC, ByteArray.size]
theorem bC_of (s : ByteArray) : bC s.data.toList = s := by cases s; simp [bC]
theorem bC_app (a b : List UInt8) : bC a ++ bC b = bC (a ++ b) := by
  apply data_inj
  rw [ByteArray.data_append, Array.toList_append, bC_data, bC_data, bC_data]
theorem bigL_take (n : Nat) : ∀ k j, j < k → (bigL n k).take (j + 1) = (bigL n k).take j ++ [UInt8.ofNat (n / 256 ^ (k - 1 - j))]
  | 0, j, h => by omega
  | k + 1, 0, _ => by rw [bigL]; rfl
  | k + 1, j + 1, h => by
    have := bigL_take n k j (by omega)
    rw [bigL, List.take_succ_cons, List.take_succ_cons, this, show k + 1 - 1 - (j + 1) = k - 1 - j by omega]
    rfl
theorem byte_at (n i : Nat) : (n : Int) / 2 ^ (8 * i) % 256 = ((UInt8.ofNat (n / 256 ^ i)).toNat : Int) := by
  have h : (2 : Int) ^ (8 * i) = ((256 ^ i : Nat) : Int) := by
    rw [show (256 : Nat) = 2 ^ 8 from rfl, ← Nat.pow_mul, Int.natCast_pow]; rfl
  rw [h, UInt8.toNat_ofNat', ← Int.natCast_ediv]
  rfl
/-- A head's first byte. -/
theorem head_bits : ∀ m v : Nat, m < 8 → v < 32 → bits BinOp.or IntKind.u8 ((m : Int) * 32) (v : Int) = ((UInt8.ofNat (32 * m + v)).toNat : Int) := by
  have : ∀ (m : Fin 8) (v : Fin 32), bits BinOp.or IntKind.u8 ((m.1 : Int) * 32) (v.1 : Int) = ((UInt8.ofNat (32 * m.1 + v.1)).toNat : Int) := by decide +kernel
  exact fun m v hm hv => this ⟨m, hm⟩ ⟨v, hv⟩
end Go.Proofs.YtdppdonaojdceaaDoor
