/- Contract of the document's own Encode of primitive. -/
import Derived.Test.YtefhhfpdponabaaPref
import Derived.Test.YtefhhfpdponabaaRefa
import Derived.Deep.RegionHeld3
namespace Go.Proofs.Ytefhhfpdponabaa
open Go.ChangeShapes Go.WideShapes Go.ChangeAt Go.RowKit
set_option linter.unusedVariables false
set_option linter.unusedSimpArgs false

/-- What Encode returns for a primitive. -/
def primV (c : Int) (raw : ByteArray) : Value :=
  if 1 ≤ c ∧ c ≤ 8 then (if raw.size = rawN c.toNat then .tuple #[.string ⟨(textL c.toNat raw.data.toList).toArray⟩, .int .i64 0] else .tuple #[.string ⟨#[]⟩, .int .i64 8])
  else .tuple #[.string ⟨#[]⟩, .int .i64 7]

theorem two_keep {w w' : World} {g B : Nat} {u v : Value} (hb : Below B w w') (hg : g < B) (h : w.cell? ⟨g, 0, none⟩ = some u ∧ w.cell? ⟨g, 1, none⟩ = some v) : w'.cell? ⟨g, 0, none⟩ = some u ∧ w'.cell? ⟨g, 1, none⟩ = some v :=
  ⟨by rw [hb.cell (p := ⟨g, 0, none⟩) hg]; exact h.1, by rw [hb.cell (p := ⟨g, 1, none⟩) hg]; exact h.2⟩
theorem two_new (w : World) (u v : Value) (T : TypeId) : (w.alloc (.cells #[u, v] T)).cell? ⟨w.heap.size, 0, none⟩ = some u ∧ (w.alloc (.cells #[u, v] T)).cell? ⟨w.heap.size, 1, none⟩ = some v := by
  constructor <;> simp [go_sem]

theorem lead_bytes (l : Nat) (h : l ≤ 2) (raw : ByteArray) : ((({ data := #[0, 0] } : ByteArray).extract 0 l ++ raw).data.toList) = List.replicate l 0 ++ raw.data.toList := by
  obtain rfl | rfl | rfl : l = 0 ∨ l = 1 ∨ l = 2 := by omega
  all_goals (rw [ByteArray.data_append, Array.toList_append]; rfl)
theorem lead_le_enc (l : Nat) (raw : ByteArray) (h : l ≤ 4 * ((l + raw.size) / 3)) (hm : (l + raw.size) % 3 = 0) : l ≤ (encL (List.replicate l 0 ++ raw.data.toList)).length := by
  rw [encL_length ((l + raw.size) / 3) _ (by rw [List.length_append, List.length_replicate, Array.length_toList]; show l + raw.size = _; omega)]
  exact h

theorem cat_text (a b : List UInt8) (l : Nat) : (⟨a.toArray⟩ : ByteArray) ++ (strL b).extract l (strL b).size = ⟨(a ++ b.drop l).toArray⟩ := by
  apply ByteArray.ext
  apply Array.toList_inj.1
  rw [ByteArray.data_append, Array.toList_append, ext_data]
  show a ++ (b.take b.length).drop l = _
  rw [List.take_length]


end Go.Proofs.Ytefhhfpdponabaa
