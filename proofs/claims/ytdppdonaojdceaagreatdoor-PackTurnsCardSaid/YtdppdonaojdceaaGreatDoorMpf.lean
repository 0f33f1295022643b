/- The document's heads: big, head, Head. -/
import Derived.Test.YtdppdonaojdceaaGreatDoorCinj
import Derived.Test.YtdppdonaojdceaaGreatDoorMsd
import Derived.Test.YtdppdonaojdceaaGreatDoorNst
import Derived.Test.YtdppdonaojdceaaGreatDoorNvw
import Derived.Test.YtdppdonaojdceaaGreatDoorPlan
import Derived.Deep.AppendLies
import Derived.BigQuiet
import Derived.Lib.Zigzag
import Derived.Deep.DeepCutAuto
import Derived.Deep.CutRange
namespace Go.Proofs.YtdppdonaojdceaaGreatDoor
open Go Go.ChangeShapes Go.WideShapes Go.ChangeAt Go.RowKit
set_option linter.unusedVariables false
set_option linter.unusedSimpArgs false

/-- A string of bytes. -/
def bC (l : List UInt8) : ByteArray := ⟨l.toArray⟩
theorem bC_data (l : List UInt8) : (bC l).data.toList = l := by simp [bC]
theorem bC_size (l : List UInt8) : (bC l).size = l.length := by simp [bC, ByteArray.size]
theorem bC_of (s : ByteArray) : bC s.data.toList = s := by cases s; simp [bC]
theorem bC_app (a b : List UInt8) : bC a ++ bC b = bC (a ++ b) := by
 apply data_inj
 rw [ByteArray.data_append, Array.toList_append, bC_data, bC_data, bC_data]
theorem bigL_take (n : Nat) : ∀ k j, j < k → (bigL n k).take (j + 1) = (bigL n k).take j ++ [UInt8.ofNat (n / 256 ^ (k - 1 - j))]
 | 0, j, h => by omega
 | k + 1, 0, _ => by rw [bigL]; rfl
 | k + 1, j + 1, h => by
  have := bigL_take n k j (by omega)
  rw [bigL, List.take_succ_cons, List.take_succ_cons, this, show k + 1 - 1 - (j + 1) = k - 1 - j by omega]
  rfl
theorem byte_at (n i : Nat) : (n : Int) / 2 ^ (8 * i) % 256 = ((UInt8.ofNat (n / 256 ^ i)).toNat : Int) := by
 have h : (2 : Int) ^ (8 * i) = ((256 ^ i : Nat) : Int) := by
  rw [show (256 : Nat) = 2 ^ 8 from rfl, ← Nat.pow_mul, Int.natCast_pow]; rfl
 rw [h, UInt8.toNat_ofNat', ← Int.natCast_ediv]
 rfl
/-- A head's first byte. -/
theorem head_bits : ∀ m v : Nat, m < 8 → v < 32 → bits BinOp.or IntKind.u8 ((m : Int) * 32) (v : Int) = ((UInt8.ofNat (32 * m + v)).toNat : Int) := by
 have : ∀ (m : Fin 8) (v : Fin 32), bits BinOp.or IntKind.u8 ((m.1 : Int) * 32) (v.1 : Int) = ((UInt8.ofNat (32 * m.1 + v.1)).toNat : Int) := by decide +kernel
 exact fun m v hm hv => this ⟨m, hm⟩ ⟨v, hv⟩
end Go.Proofs.YtdppdonaojdceaaGreatDoor
/- The document's bytes of a node: Head, Write, Encode. -/
namespace Go.Proofs.YtdppdonaojdceaaGreatDoor
open Go Go.ChangeShapes Go.WideShapes Go.ChangeAt Go.RowKit
set_option linter.unusedVariables false
set_option linter.unusedSimpArgs false

/-- The bytes of a node, and the error. -/
def csS (x : ND) : ByteArray := if validN 8 x then (if 65536 < (writeC 8 x).length then ⟨#[]⟩ else bC (writeC 8 x)) else ⟨#[]⟩
def csE (x : ND) : Int := if validN 8 x then (if 65536 < (writeC 8 x).length then 3 else 0) else 1
theorem cse_bad {x : ND} (h : validN 8 x = false) : csS x = ⟨#[]⟩ ∧ csE x = 1 := by unfold csS csE; rw [h]; exact ⟨rfl, rfl⟩
theorem cse_long {x : ND} (h : validN 8 x = true) (hl : 65536 < (writeC 8 x).length) : csS x = ⟨#[]⟩ ∧ csE x = 3 := by unfold csS csE; rw [h, if_pos rfl, if_pos rfl, if_pos hl, if_pos hl]; exact ⟨rfl, rfl⟩
theorem cse_good {x : ND} (h : validN 8 x = true) (hl : ¬ 65536 < (writeC 8 x).length) : csS x = bC (writeC 8 x) ∧ csE x = 0 := by unfold csS csE; rw [h, if_pos rfl, if_pos rfl, if_neg hl, if_neg hl]; exact ⟨rfl, rfl⟩
def CEncPost (x : ND) (w : World) (e : Ending) (w' : World) : Prop := e = .returned (.tuple #[.string (csS x), .int .i64 (csE x)]) ∧ Below w.heap.size w w'
end Go.Proofs.YtdppdonaojdceaaGreatDoor
/- The document's bytes of the third serialisation: big, one, number, text. Then: The document's Write and Encode of the third serialisation, at every depth. Then: The document's Encode of the third serialisation; what a node's bytes cost. -/
namespace Go.Proofs.YtdppdonaojdceaaGreatDoor
open Go Go.ChangeShapes Go.WideShapes Go.ChangeAt Go.RowKit
set_option linter.unusedVariables false
set_option linter.unusedSimpArgs false

end Go.Proofs.YtdppdonaojdceaaGreatDoor

namespace Go.Proofs.YtdppdonaojdceaaGreatDoor
open Go Go.ChangeShapes Go.WideShapes Go.ChangeAt Go.RowKit
set_option linter.unusedVariables false
set_option linter.unusedSimpArgs false

theorem headM_cost {h : Nat × Nat} {v : Nat} (hh : h.2 ≤ 8) : (headP h v).length ≤ 9 := by unfold headP; rw [List.length_cons, bigL_length]; omega
end Go.Proofs.YtdppdonaojdceaaGreatDoor

namespace Go.Proofs.YtdppdonaojdceaaGreatDoor
open Go Go.ChangeShapes Go.WideShapes Go.ChangeAt Go.RowKit
set_option linter.unusedVariables false
set_option linter.unusedSimpArgs false
/-- The bytes of a node, and the error. -/
def mpS (x : ND) : ByteArray := if validN 8 x then (if 65536 < (writeP 8 x).length then ⟨#[]⟩ else bC (writeP 8 x)) else ⟨#[]⟩
def mpE (x : ND) : Int := if validN 8 x then (if 65536 < (writeP 8 x).length then 3 else 0) else 1
theorem mpse_bad {x : ND} (h : validN 8 x = false) : mpS x = ⟨#[]⟩ ∧ mpE x = 1 := by unfold mpS mpE; rw [h]; exact ⟨rfl, rfl⟩
theorem mpse_long {x : ND} (h : validN 8 x = true) (hl : 65536 < (writeP 8 x).length) : mpS x = ⟨#[]⟩ ∧ mpE x = 3 := by unfold mpS mpE; rw [h, if_pos rfl, if_pos rfl, if_pos hl, if_pos hl]; exact ⟨rfl, rfl⟩
theorem mpse_good {x : ND} (h : validN 8 x = true) (hl : ¬ 65536 < (writeP 8 x).length) : mpS x = bC (writeP 8 x) ∧ mpE x = 0 := by unfold mpS mpE; rw [h, if_pos rfl, if_pos rfl, if_neg hl, if_neg hl]; exact ⟨rfl, rfl⟩
def MEncPost (x : ND) (w : World) (e : Ending) (w' : World) : Prop := e = .returned (.tuple #[.string (mpS x), .int .i64 (mpE x)]) ∧ Below w.heap.size w w'
theorem writeP_same : ∀ {e d : Nat} {x : ND}, e ≤ d → validN e x = true → writeP d x = writeP e x
 | 0, _, _, _, h => by cases h
 | e + 1, 0, _, h, _ => by omega
 | e + 1, d + 1, x, hd, h => by
  rw [validN_succ, Bool.and_eq_true, List.all_eq_true] at h
  have hm : x.items.flatMap (writeP d) = x.items.flatMap (writeP e) := by
   rw [List.flatMap_def, List.flatMap_def, List.map_congr_left fun y hy => writeP_same (by omega) (h.2 y hy)]
  have hz : List.zipWith (fun s y => pText s ++ writeP d y) x.names x.items = List.zipWith (fun s y => pText s ++ writeP e y) x.names x.items := by
   have : ∀ (ns : List ByteArray) (its : List ND), (∀ y, y ∈ its → validN e y = true) → List.zipWith (fun s y => pText s ++ writeP d y) ns its = List.zipWith (fun s y => pText s ++ writeP e y) ns its := by
    intro ns
    induction ns with
    | nil => intro its _; rfl
    | cons s t ih =>
     intro its hi
     cases its with
     | nil => rfl
     | cons y u => rw [List.zipWith_cons_cons, List.zipWith_cons_cons, ih u (fun z hz => hi z (by simp [hz])), writeP_same (by omega) (hi y (by simp))]
   exact this _ _ h.2
  rw [writeP_succ, writeP_succ]
  unfold bodyM
  rw [hm, hz]
theorem pText_cost (s : ByteArray) : (pText s).length ≤ 6 * s.size + 8 := by
 have h2 : s.data.toList.length = s.size := by rw [Array.length_toList]; rfl
 unfold pText headP
 rw [List.length_append, List.length_cons, bigL_length, h2]
 unfold txtH
 (repeat' split) <;> dsimp only <;> omega
theorem zipP_sum {W : ND → List UInt8} {c : ND → Nat} : ∀ (ns : List ByteArray) (its : List ND), (∀ y, y ∈ its → (W y).length ≤ c y) → (List.zipWith (fun s y => pText s ++ W y) ns its).flatten.length ≤ (ns.map fun s => 6 * s.size + 8).sum + (its.map fun y => c y + 1).sum
 | [], _, _ => by simp
 | _ :: _, [], _ => by simp
 | s :: ss, y :: ys, h => by
  have ih := zipP_sum ss ys (fun z hz => h z (by simp [hz]))
  have h1 := pText_cost s
  have h3 := h y (by simp)
  rw [List.zipWith_cons_cons, List.flatten_cons, List.length_append, List.length_append, List.map_cons, List.sum_cons, List.map_cons, List.sum_cons]
  omega
theorem pHd_le (x : ND) : (pHd x).2 ≤ 8 := by
 unfold pHd numH txtH lstH mapH
 (repeat' split) <;> dsimp only <;> omega
theorem writeP_cost : ∀ (d : Nat) (x : ND), validN d x = true → (writeP d x).length ≤ costN d x
 | 0, _, h => by cases h
 | d + 1, x, h => by
  obtain ⟨hi, hl, htx, hns⟩ := validN_parts h
  have ih : ∀ y, y ∈ x.items → (writeP d y).length ≤ costN d y := fun y hy => writeP_cost d y (hi y hy)
  have hts : x.text.data.toList.length = x.text.size := by rw [Array.length_toList]; rfl
  have h9 := headM_cost (v := pVal x) (pHd_le x)
  have h1 := flatC_sum x.items ih
  have h2 := zipP_sum (W := writeP d) x.names x.items ih
  rw [costN_succ, writeP_succ, List.length_append]
  unfold bodyM
  split
  ·omega
  ·split
   ·omega
   ·split
    ·omega
    ·simp; omega
end Go.Proofs.YtdppdonaojdceaaGreatDoor
