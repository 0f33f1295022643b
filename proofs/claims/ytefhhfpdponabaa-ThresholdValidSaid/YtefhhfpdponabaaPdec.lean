/- Contract of the document's own Decode of primitive. -/
import Derived.Test.YtefhhfpdponabaaPenc
import Derived.Test.YtefhhfpdponabaaRefc
import Derived.OneCell
import Derived.Laws.StructEq
namespace Go.Proofs.Ytefhhfpdponabaa
open Go.ChangeShapes Go.WideShapes Go.ChangeAt Go.RowKit
set_option linter.unusedVariables false
set_option linter.unusedSimpArgs false

/-- Whether a text begins with a code's characters. -/
def hitP (t : ByteArray) (c : Nat) : Bool := decide ((codeL c).length ≤ t.size ∧ t.extract 0 (codeL c).length = ⟨(codeL c).toArray⟩)
/-- What Decode hands to base64's Decode. -/
def bodyP (t : ByteArray) (c : Nat) : ByteArray := (⟨#[65, 65]⟩ : ByteArray).extract 0 (leadN c) ++ t.extract (codeL c).length (sizeN c)
/-- The raw bytes with their lead. -/
def rawP (t : ByteArray) (c : Nat) : ByteArray := decFS (bodyP t c).data.toList
def rawE (t : ByteArray) (c : Nat) : Int := decFE (bodyP t c).data.toList
def primZ : Value := .agg #[.int .i64 0, .string ⟨#[]⟩]
/-- What Decode returns once a code is hit. -/
def outP (t : ByteArray) (c : Nat) : Value :=
  if t.size < sizeN c then .tuple #[primZ, .int .i64 0, .int .i64 8]
  else if rawE t c ≠ 0 ∨ (rawP t c).extract 0 (leadN c) ≠ (⟨#[0, 0]⟩ : ByteArray).extract 0 (leadN c) then .tuple #[primZ, .int .i64 0, .int .i64 4]
  else .tuple #[.agg #[.int .i64 c, .string ((rawP t c).extract (leadN c) (rawP t c).size)], .int .i64 (sizeN c), .int .i64 0]
/-- What Decode returns. -/
def decP (t : ByteArray) : Value :=
  match (List.range 8).find? (fun i => hitP t (i + 1)) with
  | none => .tuple #[primZ, .int .i64 0, .int .i64 7]
  | some i => outP t (i + 1)
theorem decP_hit (t : ByteArray) (c : Nat) (h1 : 1 ≤ c) (h8 : c ≤ 8) (hn : ∀ d, 1 ≤ d → d < c → hitP t d = false) (h : hitP t c = true) : decP t = outP t c := by
  obtain ⟨i, rfl⟩ : ∃ i, c = i + 1 := ⟨c - 1, by omega⟩
  have : (List.range 8).find? (fun i => hitP t (i + 1)) = some i := by
    rw [List.find?_range_eq_some]
    exact ⟨h, by simp; omega, fun j hj => by simp [hn (j + 1) (by omega) (by omega)]⟩
  unfold decP
  rw [this]
theorem decP_none (t : ByteArray) (hn : ∀ d, 1 ≤ d → d < 9 → hitP t d = false) : decP t = .tuple #[primZ, .int .i64 0, .int .i64 7] := by
  have : (List.range 8).find? (fun i => hitP t (i + 1)) = none := by
    rw [List.find?_eq_none]
    intro i hi
    simp at hi
    simp [hn (i + 1) (by omega) (by omega)]
  unfold decP
  rw [this]

theorem two_of {w : World} {g : Nat} {u v : Value} {T : TypeId} (h : w.heap[g]? = some (.cells #[u, v] T (0, 0))) : w.cell? ⟨g, 0, none⟩ = some u ∧ w.cell? ⟨g, 1, none⟩ = some v := by
  constructor <;> simp [World.cell?, h]
theorem two_set0 {w : World} {g : Nat} {u v : Value} {T : TypeId} (h : w.heap[g]? = some (.cells #[u, v] T (0, 0))) (x : Value) : (w.setCell ⟨g, 0, none⟩ x).heap[g]? = some (.cells #[x, v] T (0, 0)) := by
  have hlt := lt_of_block h
  have h' : w.heap[g] = .cells #[u, v] T (0, 0) := by simpa [Array.getElem?_eq_getElem hlt] using h
  show (w.heap.modify g _)[g]? = _
  rw [Array.getElem?_eq_getElem (by simpa using hlt), Array.getElem_modify_self, h']
  rfl
theorem two_set1 {w : World} {g : Nat} {u v : Value} {T : TypeId} (h : w.heap[g]? = some (.cells #[u, v] T (0, 0))) (x : Value) : (w.setCell ⟨g, 1, none⟩ x).heap[g]? = some (.cells #[u, x] T (0, 0)) := by
  have hlt := lt_of_block h
  have h' : w.heap[g] = .cells #[u, v] T (0, 0) := by simpa [Array.getElem?_eq_getElem hlt] using h
  show (w.heap.modify g _)[g]? = _
  rw [Array.getElem?_eq_getElem (by simpa using hlt), Array.getElem_modify_self, h']
  rfl
/-- Both cells of a block that is written whole. -/
theorem two_put {w : World} {g : Nat} {u v : Value} {T : TypeId} (h : w.heap[g]? = some (.cells #[u, v] T (0, 0))) (x y : Value) : (w.setCell ⟨g, 0, none⟩ x).cell? ⟨g, 0, none⟩ = some x ∧ ((w.setCell ⟨g, 0, none⟩ x).setCell ⟨g, 1, none⟩ y).cell? ⟨g, 1, none⟩ = some y :=
  ⟨(two_of (two_set0 h x)).1, (two_of (two_set1 (two_set0 h x) y)).2⟩

theorem keepB {b g : Nat} {w w' : World} {o : Obj} (hb : Below b w w') (hg : g < b) (h : w.heap[g]? = some o) : w'.heap[g]? = some o := (hb.block g hg).trans h
theorem free_two {w : World} {g : Nat} {u v : Value} {T : TypeId} (h : w.heap[g]? = some (.cells #[u, v] T (0, 0))) : w.frozen? ⟨g, 0, none⟩ = false ∧ w.frozen? ⟨g, 1, none⟩ = false := by
  constructor <;> simp [World.frozen?, h]
theorem belowQ {B : Nat} {a w : World} (h : Below B a w) (n : Nat) : Below B a (w.drewN n) := ⟨h.os, h.tape, h.output, h.size, h.block⟩
theorem same_str {a b : ByteArray} (h : a = b) : (a.toList == b.toList) = true := by rw [h]; exact beq_self_eq_true _
theorem other_str {a b : ByteArray} (h : a ≠ b) : (a.toList == b.toList) = false := by
  rw [beq_eq_false_iff_ne]
  intro e
  rw [ByteArray.toList_eq, ByteArray.toList_eq] at e
  exact h (bytes_inj e)
theorem bodyP_size (t : ByteArray) (c : Nat) (h1 : 1 ≤ c) (h8 : c ≤ 8) (h : sizeN c ≤ t.size) : (bodyP t c).size = 4 * ((leadN c + rawN c) / 3) ∧ (codeL c).length ≤ sizeN c ∧ sizeN c ≤ 836 := by
  have a := size_code c h1 h8
  have hl := lead_le c
  have hb : (codeL c).length ≤ sizeN c ∧ sizeN c ≤ 836 := by
    rcases eight_codes h1 h8 with rfl | rfl | rfl | rfl | rfl | rfl | rfl | rfl <;> decide
  refine ⟨?_, hb⟩
  unfold bodyP
  rw [ByteArray.size_append, ByteArray.size_extract, ByteArray.size_extract]
  show min (leadN c) 2 - 0 + _ = _
  omega
theorem rawP_size (t : ByteArray) (c : Nat) (h1 : 1 ≤ c) (h8 : c ≤ 8) (h : sizeN c ≤ t.size) (he : rawE t c = 0) : (rawP t c).size = leadN c + rawN c := by
  obtain ⟨hb, -, hs⟩ := bodyP_size t c h1 h8 h
  have hm := lead_raw c
  have hl : (bodyP t c).data.toList.length = 4 * ((leadN c + rawN c) / 3) := by rw [Array.length_toList]; exact hb
  have hk : (leadN c + rawN c) / 3 ≤ 209 := by rcases eight_codes h1 h8 with rfl | rfl | rfl | rfl | rfl | rfl | rfl | rfl <;> decide
  unfold rawE decFE decE at he
  unfold rawP decFS decS
  rw [hl] at he ⊢
  rw [if_neg (by omega)] at he ⊢
  rw [if_neg (by omega)] at he
  by_cases ha : allD (bodyP t c).data.toList = true
  · rw [if_pos ha]
    show (decL _).length = _
    rw [decL_length _ _ hl]
    omega
  · rw [if_neg ha] at he; cases he


end Go.Proofs.Ytefhhfpdponabaa
