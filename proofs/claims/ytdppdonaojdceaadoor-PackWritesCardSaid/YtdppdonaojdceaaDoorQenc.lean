/- Contracts of the small functions of package primitive: layoutOf, lead, size, Code, Raw, Size. The table of layouts must read as the program lays it. Then: Contracts of the document's own Make, Binary, Text, Open, Is of primitive. Then: Contracts of the program's own Encode, Make, Binary, Text of primitive. -/
import Derived.Test.YtdppdonaojdceaaDoorPdec
import Derived.Test.YtdppdonaojdceaaDoorBasg
namespace Go.Proofs.YtdppdonaojdceaaDoor
open Go.ChangeShapes Go.WideShapes Go.ChangeAt Go.RowKit
set_option linter.unusedVariables false
set_option linter.unusedSimpArgs false



theorem w64 (n : Int) (h : -9223372036854775808 ≤ n ∧ n ≤ 9223372036854775807) : IntKind.i64.wrap n = n := by rw [IntKind.wrap_i64]; omega
theorem size_wraps (k l b a : Nat) (hk : k ≤ 4) (hl : l ≤ 2) (hb : b ≤ 1000) (h : (k : Int) + ((l : Int) + (b : Int)) / 3 * 4 - (l : Int) = (a : Int)) :
    IntKind.i64.wrap (IntKind.i64.wrap ((k : Int) + IntKind.i64.wrap (IntKind.i64.wrap ((IntKind.i64.wrap ((l : Int) + (b : Int))).tdiv 3) * 4)) - (l : Int)) = (a : Int) := by
  rw [w64 ((l : Int) + (b : Int)) (by omega), Int.tdiv_eq_ediv_of_nonneg (by omega), w64 (((l : Int) + (b : Int)) / 3) (by omega), w64 (((l : Int) + (b : Int)) / 3 * 4) (by omega), w64 ((k : Int) + ((l : Int) + (b : Int)) / 3 * 4) (by omega), w64 _ (by omega)]
  exact h


end Go.Proofs.YtdppdonaojdceaaDoor

namespace Go.Proofs.YtdppdonaojdceaaDoor
open Go.ChangeShapes Go.WideShapes Go.ChangeAt Go.RowKit
set_option linter.unusedVariables false
set_option linter.unusedSimpArgs false

/-- Encode's two answers apart. -/
def primS (c : Int) (raw : ByteArray) : ByteArray := if (1 ≤ c ∧ c ≤ 8) ∧ raw.size = rawN c.toNat then ⟨(textL c.toNat raw.data.toList).toArray⟩ else ⟨#[]⟩
def primE (c : Int) (raw : ByteArray) : Int := if 1 ≤ c ∧ c ≤ 8 then (if raw.size = rawN c.toNat then 0 else 8) else 7
theorem primV_parts (c : Int) (raw : ByteArray) : primV c raw = .tuple #[.string (primS c raw), .int .i64 (primE c raw)] := by
  unfold primV primS primE
  by_cases h : 1 ≤ c ∧ c ≤ 8 <;> by_cases g : raw.size = rawN c.toNat <;> simp [h, g]
/-- Decode's four answers apart. -/
structure DecQ where
  c : Int
  raw : ByteArray
  n : Int
  e : Int
def outQ (t : ByteArray) (c : Nat) : DecQ :=
  if t.size < sizeN c then ⟨0, ⟨#[]⟩, 0, 8⟩
  else if rawE t c ≠ 0 ∨ (rawP t c).extract 0 (leadN c) ≠ (⟨#[0, 0]⟩ : ByteArray).extract 0 (leadN c) then ⟨0, ⟨#[]⟩, 0, 4⟩
  else ⟨c, (rawP t c).extract (leadN c) (rawP t c).size, sizeN c, 0⟩
def decQ (t : ByteArray) : DecQ :=
  match (List.range 8).find? (fun i => hitP t (i + 1)) with
  | none => ⟨0, ⟨#[]⟩, 0, 7⟩
  | some i => outQ t (i + 1)
theorem decP_parts (t : ByteArray) : decP t = .tuple #[.agg #[.int .i64 (decQ t).c, .string (decQ t).raw], .int .i64 (decQ t).n, .int .i64 (decQ t).e] := by
  unfold decP decQ primZ
  cases (List.range 8).find? (fun i => hitP t (i + 1)) with
  | none => rfl
  | some i =>
    show outP t (i + 1) = _
    unfold outP outQ primZ
    by_cases h : t.size < sizeN (i + 1)
    · simp only [if_pos h]
    · simp only [if_neg h]
      by_cases g : rawE t (i + 1) ≠ 0 ∨ (rawP t (i + 1)).extract 0 (leadN (i + 1)) ≠ (⟨#[0, 0]⟩ : ByteArray).extract 0 (leadN (i + 1))
      · simp only [if_pos g]
      · simp only [if_neg g]




/-- What Open returns. -/
def opnS (c : Int) (t : ByteArray) : ByteArray := if (decQ t).e ≠ 0 ∨ (decQ t).c ≠ c ∨ (decQ t).n ≠ t.size then ⟨#[]⟩ else (decQ t).raw
def opnE (c : Int) (t : ByteArray) : Int := if (decQ t).e ≠ 0 then (decQ t).e else if (decQ t).c ≠ c then 7 else if (decQ t).n ≠ t.size then 8 else 0


end Go.Proofs.YtdppdonaojdceaaDoor

namespace Go.Proofs.YtdppdonaojdceaaDoor
open Go.ChangeShapes Go.WideShapes Go.ChangeAt Go.RowKit
set_option linter.unusedVariables false
set_option linter.unusedSimpArgs false

theorem three_keep {w w' : World} {g h B : Nat} {u v x : Value} (hb : Below B w w') (hg : g < B) (hh : h < B) (s : w.cell? ⟨g, 1, none⟩ = some u ∧ w.cell? ⟨h, 0, none⟩ = some v ∧ w.cell? ⟨h, 1, none⟩ = some x) : w'.cell? ⟨g, 1, none⟩ = some u ∧ w'.cell? ⟨h, 0, none⟩ = some v ∧ w'.cell? ⟨h, 1, none⟩ = some x :=
  ⟨by rw [hb.cell (p := ⟨g, 1, none⟩) hg]; exact s.1, by rw [hb.cell (p := ⟨h, 0, none⟩) hh]; exact s.2.1, by rw [hb.cell (p := ⟨h, 1, none⟩) hh]; exact s.2.2⟩




end Go.Proofs.YtdppdonaojdceaaDoor
