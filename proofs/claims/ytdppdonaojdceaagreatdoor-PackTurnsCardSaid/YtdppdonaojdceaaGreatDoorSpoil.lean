/- The plain mathematics of base 64 digits: the alphabet, the table of values, and what both say of one another. Nothing of the program is imported. Then: What the two directions of base 64 say of one another: digits of numbers, texts of bytes. Nothing of the program is imported. Then: Primitives as plain functions: codes, sizes, texts. Nothing of the program is imported. -/
import Derived.Test.YtdppdonaojdceaaGreatDoorRows
import Derived.Test.YtdppdonaojdceaaGreatDoorMem
import Derived.WalkKit
import Derived.ProofKit
import Derived.OpenShut
import Derived.WalkSpells
import Derived.WalkLawsBesides
import Derived.Outline
import Derived.Lib.Hide
import Derived.Deep.QuietTactic
import Derived.BigQuiet
import Derived.Deep.RegionHeld3
import Derived.OneCell
import Derived.Laws.StructEq
import Derived.StillTailTactics
import Derived.LaidMore
import Derived.Lib.LaidTab
import Derived.Stop.Joined
namespace Go.Proofs.YtdppdonaojdceaaGreatDoor
open Go
set_option linter.unusedVariables false
set_option linter.unusedSimpArgs false

/-- Bytes as memory holds them. -/
def bytesV (l : List UInt8) : List Value := l.map fun b => Value.int .u8 (b.toNat : Int)

theorem bytesV_append (a b : List UInt8) : bytesV (a ++ b) = bytesV a ++ bytesV b := by simp [bytesV]

where byts (n : Nat) : List UInt8 := [UInt8.ofNat (n / 65536), UInt8.ofNat (n / 256), UInt8.ofNat n]

end Go.Proofs.YtdppdonaojdceaaGreatDoor

namespace Go.Proofs.YtdppdonaojdceaaGreatDoor
open Go
set_option linter.unusedVariables false
set_option linter.unusedSimpArgs false

end Go.Proofs.YtdppdonaojdceaaGreatDoor

namespace Go.Proofs.YtdppdonaojdceaaGreatDoor
open Go
set_option linter.unusedVariables false
set_option linter.unusedSimpArgs false

end Go.Proofs.YtdppdonaojdceaaGreatDoor
/- Contracts of the functions of package base64 (Value, Digit, appendDigits, readDigits, Encode, Decode, Number, Parse): what each returns, and that it changes no old memory. The table of values must read as the program lays it. Then: Contracts of Encode, Decode, Number and Parse of package base64. Then: The contract of Decode of package base64. -/
namespace Go.Proofs.YtdppdonaojdceaaGreatDoor
open Go.ChangeShapes Go.WideShapes Go.ChangeAt Go.RowKit
set_option linter.unusedVariables false
set_option linter.unusedSimpArgs false

theorem Tryz.info5 : (Tryz.prog.info? 5).map (fun i => (i.zero, i.size, i.bytes)) = some (some (.int .u8 0), 1, 1) := by kernel_rfl

end Go.Proofs.YtdppdonaojdceaaGreatDoor

namespace Go.Proofs.YtdppdonaojdceaaGreatDoor
open Go.ChangeShapes Go.WideShapes Go.ChangeAt Go.RowKit
set_option linter.unusedVariables false
set_option linter.unusedSimpArgs false

end Go.Proofs.YtdppdonaojdceaaGreatDoor

namespace Go.Proofs.YtdppdonaojdceaaGreatDoor
open Go.ChangeShapes Go.WideShapes Go.ChangeAt Go.RowKit
set_option linter.unusedVariables false
set_option linter.unusedSimpArgs false

end Go.Proofs.YtdppdonaojdceaaGreatDoor
/- Slices of numbers, of primitives and of groups as a walk reads them, whoever made them: all blocks lie below B. For every program. And groups as plain data: what is permitted, what follows its pattern, marks. -/
namespace Go.Proofs.YtdppdonaojdceaaGreatDoor
open Go Go.RowKit
set_option linter.unusedVariables false
set_option linter.unusedSimpArgs false

/-- A slice of the numbers l. -/
def IntsAt (B : Nat) (w : World) (v : Value) (l : List Int) : Prop :=
 ∃ ao cap, v = .slice ao l.length cap ∧ l.length ≤ cap ∧ ∀ j, j < l.length → ∃ b off, ao = some ⟨b, off, none⟩ ∧ b < B ∧ w.cell? ⟨b, off + j, none⟩ = some (.int .i64 (l.getD j 0))
section
variable {B C : Nat} {w w' : World} {v : Value}
theorem cell_same {b o : Nat} (hb : w'.heap[b]? = w.heap[b]?) : w'.cell? ⟨b, o, none⟩ = w.cell? ⟨b, o, none⟩ := by simp only [World.cell?, hb]
theorem IntsAt.same {l : List Int} (h : IntsAt B w v l) (hb : ∀ j, j < B → w'.heap[j]? = w.heap[j]?) (hC : B ≤ C) : IntsAt C w' v l := by
 obtain ⟨ao, cap, h1, h2, h3⟩ := h
 refine ⟨ao, cap, h1, h2, fun j hj => ?_⟩
 obtain ⟨b, off, e, hB, hc⟩ := h3 j hj
 exact ⟨b, off, e, by omega, by rw [cell_same (hb b hB)]; exact hc⟩
theorem IntsAt.below {l : List Int} (h : IntsAt B w v l) (hb : Below B w w') : IntsAt B w' v l := h.same hb.block (Nat.le_refl _)
end

def badMark (k n : Int) : Prop := k < 1 ∨ 4 < k ∨ n < 0 ∨ 4095 < n
instance (k n : Int) : Decidable (badMark k n) := by unfold badMark; infer_instance

end Go.Proofs.YtdppdonaojdceaaGreatDoor
/- Contracts of the document's own functions of primitive: Code, Raw, lead, Size. Then: Contract of the document's own Encode of primitive. Then: Contract of the document's own Decode of primitive. -/
namespace Go.Proofs.YtdppdonaojdceaaGreatDoor
open Go.ChangeShapes Go.WideShapes Go.ChangeAt Go.RowKit
set_option linter.unusedVariables false
set_option linter.unusedSimpArgs false

end Go.Proofs.YtdppdonaojdceaaGreatDoor

namespace Go.Proofs.YtdppdonaojdceaaGreatDoor
open Go.ChangeShapes Go.WideShapes Go.ChangeAt Go.RowKit
set_option linter.unusedVariables false
set_option linter.unusedSimpArgs false

end Go.Proofs.YtdppdonaojdceaaGreatDoor

namespace Go.Proofs.YtdppdonaojdceaaGreatDoor
open Go.ChangeShapes Go.WideShapes Go.ChangeAt Go.RowKit
set_option linter.unusedVariables false
set_option linter.unusedSimpArgs false

theorem two_of {w : World} {g : Nat} {u v : Value} {T : TypeId} (h : w.heap[g]? = some (.cells #[u, v] T (0, 0))) : w.cell? ⟨g, 0, none⟩ = some u ∧ w.cell? ⟨g, 1, none⟩ = some v := by
 constructor <;> simp [World.cell?, h]
theorem two_set0 {w : World} {g : Nat} {u v : Value} {T : TypeId} (h : w.heap[g]? = some (.cells #[u, v] T (0, 0))) (x : Value) : (w.setCell ⟨g, 0, none⟩ x).heap[g]? = some (.cells #[x, v] T (0, 0)) := by
 have hlt := lt_of_block h
 have h' : w.heap[g] = .cells #[u, v] T (0, 0) := by simpa [Array.getElem?_eq_getElem hlt] using h
 show (w.heap.modify g _)[g]? = _
 rw [Array.getElem?_eq_getElem (by simpa using hlt), Array.getElem_modify_self, h']
 rfl
theorem two_set1 {w : World} {g : Nat} {u v : Value} {T : TypeId} (h : w.heap[g]? = some (.cells #[u, v] T (0, 0))) (x : Value) : (w.setCell ⟨g, 1, none⟩ x).heap[g]? = some (.cells #[u, x] T (0, 0)) := by
 have hlt := lt_of_block h
 have h' : w.heap[g] = .cells #[u, v] T (0, 0) := by simpa [Array.getElem?_eq_getElem hlt] using h
 show (w.heap.modify g _)[g]? = _
 rw [Array.getElem?_eq_getElem (by simpa using hlt), Array.getElem_modify_self, h']
 rfl
/-- Both cells of a block that is written whole. -/
theorem two_put {w : World} {g : Nat} {u v : Value} {T : TypeId} (h : w.heap[g]? = some (.cells #[u, v] T (0, 0))) (x y : Value) : (w.setCell ⟨g, 0, none⟩ x).cell? ⟨g, 0, none⟩ = some x ∧ ((w.setCell ⟨g, 0, none⟩ x).setCell ⟨g, 1, none⟩ y).cell? ⟨g, 1, none⟩ = some y :=
 ⟨(two_of (two_set0 h x)).1, (two_of (two_set1 (two_set0 h x) y)).2⟩

theorem free_two {w : World} {g : Nat} {u v : Value} {T : TypeId} (h : w.heap[g]? = some (.cells #[u, v] T (0, 0))) : w.frozen? ⟨g, 0, none⟩ = false ∧ w.frozen? ⟨g, 1, none⟩ = false := by
 constructor <;> simp [World.frozen?, h]

end Go.Proofs.YtdppdonaojdceaaGreatDoor
/- Contracts of the small functions of package primitive: layoutOf, lead, size, Code, Raw, Size. The table of layouts must read as the program lays it. Then: Contracts of the document's own Make, Binary, Text, Open, Is of primitive. Then: Contracts of the program's own Encode, Make, Binary, Text of primitive. -/
namespace Go.Proofs.YtdppdonaojdceaaGreatDoor
open Go.ChangeShapes Go.WideShapes Go.ChangeAt Go.RowKit
set_option linter.unusedVariables false
set_option linter.unusedSimpArgs false

theorem w64 (n : Int) (h : -9223372036854775808 ≤ n ∧ n ≤ 9223372036854775807) : IntKind.i64.wrap n = n := by rw [IntKind.wrap_i64]; omega

end Go.Proofs.YtdppdonaojdceaaGreatDoor

namespace Go.Proofs.YtdppdonaojdceaaGreatDoor
open Go.ChangeShapes Go.WideShapes Go.ChangeAt Go.RowKit
set_option linter.unusedVariables false
set_option linter.unusedSimpArgs false

end Go.Proofs.YtdppdonaojdceaaGreatDoor

namespace Go.Proofs.YtdppdonaojdceaaGreatDoor
open Go.ChangeShapes Go.WideShapes Go.ChangeAt Go.RowKit
set_option linter.unusedVariables false
set_option linter.unusedSimpArgs false

end Go.Proofs.YtdppdonaojdceaaGreatDoor
/- Contracts of the small helpers: Mod, and the sanity check 'awake' of the statements of base64; the table of values out of what the rows list. Then: The contract of Spoil: some string of the same length comes back, and no old memory is changed. -/
namespace Go.Proofs.YtdppdonaojdceaaGreatDoor
open Go.ChangeShapes Go.WideShapes Go.ChangeAt Go.RowKit
set_option linter.unusedVariables false
set_option linter.unusedSimpArgs false

/-- Mod with a positive modulus is Euclid's remainder. -/
theorem mod_any (n : Int) (m : Nat) (w : World) (h1 : 1 ≤ m) (hm : m < 2 ^ 62) (hlo : -9223372036854775808 ≤ n) (hhi : n ≤ 9223372036854775807) :
  Calls Tryz.prog 33 #[.int .i64 n, .int .i64 m] w fun e w' => e = .returned (.int .i64 (n % (m : Int))) ∧ w = w' := by
 obtain ⟨r, hr⟩ : ∃ r, r = n.tmod (m : Int) := ⟨_, rfl⟩
 have h0 : ¬ (m : Int) = 0 := by omega
 have hr1 : -(m : Int) < r := by
  rw [hr]
  have a1 := Int.lt_tmod_of_pos n (b := (m : Int)) (by omega)
  omega
 have hr2 : r < (m : Int) := by rw [hr]; exact Int.tmod_lt_of_pos n (by omega)
 have hfin : (r + (m : Int)) % (m : Int) = n % (m : Int) := by
  rw [hr, Int.add_emod_right, Int.tmod_eq_emod]
  split
  ·simp
  ·rw [Int.sub_emod]
   simp
 have hfin2 : r % (m : Int) = n % (m : Int) := by rw [← hfin]; simp
 have HF2 := Lib.hid hfin2
 have HF := Lib.hid hfin
 have hr' : n.tmod (m : Int) = r := hr.symm
 have hmz : ((m : Int) == 0) = false := by simp; omega
 clear hr hfin hfin2
 by_cases hn : 0 ≤ n
 ·have hr3 : n % (m : Int) = r := by rw [← hr', Int.tmod_eq_emod, if_pos (.inl hn)]; simp
  go_enter Tryz.func33, Tryz.ntmps33
  go_wp2
  go_ret
  first | (rw [HF.out]; exact ⟨rfl, rfl⟩) | (rw [HF2.out]; exact ⟨rfl, rfl⟩)
 ·go_enter Tryz.func33, Tryz.ntmps33
  go_wp2
  go_ret
  first | (rw [HF.out]; exact ⟨rfl, rfl⟩) | (rw [HF2.out]; exact ⟨rfl, rfl⟩)

end Go.Proofs.YtdppdonaojdceaaGreatDoor

namespace Go.Proofs.YtdppdonaojdceaaGreatDoor
open Go.ChangeShapes Go.WideShapes Go.ChangeAt Go.RowKit
set_option linter.unusedVariables false
set_option linter.unusedSimpArgs false

end Go.Proofs.YtdppdonaojdceaaGreatDoor
