/- Contracts of the document's own Make, Binary, Text, Open, Is of primitive. -/
import Derived.Test.YtefhhfpdponabaaPdec
namespace Go.Proofs.Ytefhhfpdponabaa
open Go.ChangeShapes Go.WideShapes Go.ChangeAt Go.RowKit
set_option linter.unusedVariables false
set_option linter.unusedSimpArgs false

/-- Encode's two answers apart. -/
def primS (c : Int) (raw : ByteArray) : ByteArray := if (1 ≤ c ∧ c ≤ 8) ∧ raw.size = rawN c.toNat then ⟨(textL c.toNat raw.data.toList).toArray⟩ else ⟨#[]⟩
def primE (c : Int) (raw : ByteArray) : Int := if 1 ≤ c ∧ c ≤ 8 then (if raw.size = rawN c.toNat then 0 else 8) else 7
theorem primV_parts (c : Int) (raw : ByteArray) : primV c raw = .tuple #[.string (primS c raw), .int .i64 (primE c raw)] := by
  unfold primV primS primE
  by_cases h : 1 ≤ c ∧ c ≤ 8 <;> by_cases g : raw.size = rawN c.toNat <;> simp [h, g]
/-- Decode's four answers apart. -/
structure DecQ where
  c : Int
  raw : ByteArray
  n : Int
  e : Int
def outQ (t : ByteArray) (c : Nat) : DecQ :=
  if t.size < sizeN c then ⟨0, ⟨#[]⟩, 0, 8⟩
  else if rawE t c ≠ 0 ∨ (rawP t c).extract 0 (leadN c) ≠ (⟨#[0, 0]⟩ : ByteArray).extract 0 (leadN c) then ⟨0, ⟨#[]⟩, 0, 4⟩
  else ⟨c, (rawP t c).extract (leadN c) (rawP t c).size, sizeN c, 0⟩
def decQ (t : ByteArray) : DecQ :=
  match (List.range 8).find? (fun i => hitP t (i + 1)) with
  | none => ⟨0, ⟨#[]⟩, 0, 7⟩
  | some i => outQ t (i + 1)
theorem decP_parts (t : ByteArray) : decP t = .tuple #[.agg #[.int .i64 (decQ t).c, .string (decQ t).raw], .int .i64 (decQ t).n, .int .i64 (decQ t).e] := by
  unfold decP decQ primZ
  cases (List.range 8).find? (fun i => hitP t (i + 1)) with
  | none => rfl
  | some i =>
    show outP t (i + 1) = _
    unfold outP outQ primZ
    by_cases h : t.size < sizeN (i + 1)
    · simp only [if_pos h]
    · simp only [if_neg h]
      by_cases g : rawE t (i + 1) ≠ 0 ∨ (rawP t (i + 1)).extract 0 (leadN (i + 1)) ≠ (⟨#[0, 0]⟩ : ByteArray).extract 0 (leadN (i + 1))
      · simp only [if_pos g]
      · simp only [if_neg g]




/-- What Open returns. -/
def opnS (c : Int) (t : ByteArray) : ByteArray := if (decQ t).e ≠ 0 ∨ (decQ t).c ≠ c ∨ (decQ t).n ≠ t.size then ⟨#[]⟩ else (decQ t).raw
def opnE (c : Int) (t : ByteArray) : Int := if (decQ t).e ≠ 0 then (decQ t).e else if (decQ t).c ≠ c then 7 else if (decQ t).n ≠ t.size then 8 else 0


end Go.Proofs.Ytefhhfpdponabaa
