/- Decode of the second serialisation, the document's own: the node of some bytes, or the error. -/
import Derived.Test.YtdppdonaojdceaaDoorCva
import Derived.Test.YtdppdonaojdceaaDoorNawk
namespace Go.Proofs.YtdppdonaojdceaaDoor
open Go Go.ChangeShapes Go.WideShapes Go.ChangeAt Go.RowKit
set_option linter.unusedVariables false
set_option linter.unusedSimpArgs false

theorem cnumsB_down : ∀ {d e : Nat} {x : ND}, d ≤ e → numsB e x = true → numsB d x = true
  | 0, _, _, _, _ => rfl
  | d + 1, 0, _, h, _ => by omega
  | d + 1, e + 1, x, hd, hn => by
    rw [numsB_succ, Bool.and_eq_true, List.all_eq_true] at hn ⊢
    exact ⟨hn.1, fun y hy => cnumsB_down (by omega) (hn.2 y hy)⟩
/-- The node that some bytes are, or none. -/
def CDecIs (s : ByteArray) (x : ND) (er : Int) : Prop := (er = 0 ∧ validN 8 x = true ∧ numsB 8 x = true ∧ writeC 8 x = s.data.toList ∧ s.size ≤ 65536) ∨ (er = 4 ∧ x = nd0 ∧ ∀ y, validN 8 y = true → numsB 8 y = true → s.size ≤ 65536 → writeC 8 y ≠ s.data.toList)
def CDecPost (s : ByteArray) (w : World) (e : Ending) (w' : World) : Prop := ∃ (cs : List Value) (x : ND) (er : Int), e = .returned (.tuple #[.agg cs.toArray, .int .i64 er]) ∧ NodeIn 9 (fun b => w.heap.size ≤ b ∧ b < w'.heap.size) w' cs x ∧ Below w.heap.size w w' ∧ CDecIs s x er
/-- What is allowed is one answer. -/
theorem cdec_uniq {s : ByteArray} {x y : ND} {e f : Int} (h : CDecIs s x e) (g : CDecIs s y f) : x = y ∧ e = f := by
  rcases h with ⟨rfl, h1, h2, h3, h4⟩ | ⟨rfl, rfl, h1⟩ <;> rcases g with ⟨rfl, g1, g2, g3, g4⟩ | ⟨rfl, rfl, g1⟩
  · exact ⟨(writeC_app_inj 8 x y [] [] h1 h2 g1 g2 (by rw [h3, g3])).1, rfl⟩
  · exact absurd h3 (g1 x h1 h2 h4)
  · exact absurd g3 (h1 y g1 g2 g4)
  · exact ⟨rfl, rfl⟩
end Go.Proofs.YtdppdonaojdceaaDoor
