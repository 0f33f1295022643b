/- Contracts of the document's own Make, Binary, Text, Open, Is of primitive. -/
import Derived.Test.YteammnfdhdhefaaDoorPdec
namespace Go.Proofs.YteammnfdhdhefaaDoor
open Go.ChangeShapes Go.WideShapes Go.ChangeAt Go.RowKit
set_option linter.unusedVariables false
set_option linter.unusedSimpArgs false

/-- Encode's two answers apart. -/
def primS (c : Int) (raw : ByteArray) : ByteArray := if (1 ≤ c ∧ c ≤ 8) ∧ raw.size = rawN c.toNat then ⟨(textL c.toNat raw.data.toList).toArray⟩ else ⟨#[]⟩
def primE (c : Int) (raw : ByteArray) : Int := if 1 ≤ c ∧ c ≤ 8 then (if raw.size = rawN c.toNat then 0 else 8) else 7
theorem primV_parts (c : Int) (raw : ByteArray) : primV c raw = .tuple #[.string (primS c raw), .int .i64 (primE c raw)] := by
  unfold primV primS primE
  by_cases h : 1 ≤ c ∧ c ≤ 8 <;> by_cases g : raw.size = rawN c.toNat <;> simp [h, g]
/-- Decode's four answers apart. -/
structure DecQ where
  c : Int
  raw : ByteArray
  n : Int
  e : Int
def outQ (t : ByteArray) (c : Nat) : DecQ :=
  if t.size < sizeN c then ⟨0, ⟨#[]⟩, 0, 8⟩
  else if rawE t c ≠ 0 ∨ (rawP t c).extract 0 (leadN c) ≠ (⟨#[0, 0]⟩ : ByteArray).extract 0 (leadN c) then ⟨0, ⟨#[]⟩, 0, 4⟩
  else ⟨c, (rawP t c).extract (leadN c) (rawP t c).size, sizeN c, 0⟩
def decQ (t : ByteArray) : DecQ :=
  match (List.range 8).find? (fun i => hitP t (i + 1)) with
  | none => ⟨0, ⟨#[]⟩, 0, 7⟩
  | some i => outQ t (i + 1)
theorem decP_parts (t : ByteArray) : decP t = .tuple #[.agg #[.int .i64 (decQ t).c, .string (decQ t).raw], .int .i64 (decQ t).n, .int .i64 (decQ t).e] := by
  unfold decP decQ primZ
  cases (List.range 8).find? (fun i => hitP t (i + 1)) with
  | none => rfl
  | some i =>
    show outP t (i + 1) = _
    unfold outP outQ primZ
    by_cases h : t.size < sizeN (i + 1)
    · simp only [if_pos h]
    · simp only [if_neg h]
      by_cases g : rawE t (i + 1) ≠ 0 ∨ (rawP t (i + 1)).extract 0 (leadN (i + 1)) ≠ (⟨#[0, 0]⟩ : ByteArray).extract 0 (leadN (i + 1))
      · simp only [if_pos g]
      · simp only [if_neg g]

set_option maxRecDepth 100000 in
theorem rmake_any (c : Int) (raw : ByteArray) (w : World) (hr : raw.size ≤ maxLen - 2) : Calls Tryd.prog 16 #[.int .i64 c, .string raw] w fun e w' => e = .returned (.string (primS c raw)) ∧ Below w.heap.size w w' := by
  have C := Lib.hid (fun (wx : World) => rprim_any c raw wx hr)
  rw [primV_parts] at C
  go_enter Tryd.func16, Tryd.ntmps16
  go_wp2_with (go_at_call 13; (with_reducible refine (C.out _).mono ?_); rintro e w1 ⟨rfl, hb1⟩)
  go_ret
  exact ⟨rfl, hb1⟩

set_option maxRecDepth 100000 in
theorem rbinary_any (t : ByteArray) (w : World) (hr : t.size ≤ maxLen) : Calls Tryd.prog 24 #[.string t] w fun e w' => e = .returned (.tuple #[.string (decFS t.data.toList), .int .i64 (decFE t.data.toList)]) ∧ Below w.heap.size w w' := by
  have C := Lib.hid (fun (wx : World) => rdecode_full t wx hr)
  go_enter Tryd.func24, Tryd.ntmps24
  go_wp2_with (go_at_call 43; (with_reducible refine (C.out _).mono ?_); rintro e w1 ⟨rfl, hb1⟩)
  go_ret2
  exact ⟨rfl, hb1⟩

set_option maxRecDepth 100000 in
theorem rtext_any (t : ByteArray) (w : World) (hr : t.size ≤ maxLen) : Calls Tryd.prog 26 #[.string t] w fun e w' => e = .returned (.tuple #[.string (encS t.data.toList), .int .i64 (encE t.data.toList)]) ∧ Below w.heap.size w w' := by
  have C := Lib.hid (fun (wx : World) => rencode_full t wx hr)
  go_enter Tryd.func26, Tryd.ntmps26
  go_wp2_with (go_at_call 36; (with_reducible refine (C.out _).mono ?_); rintro e w1 ⟨rfl, hb1⟩)
  go_ret2
  exact ⟨rfl, hb1⟩

/-- What Open returns. -/
def opnS (c : Int) (t : ByteArray) : ByteArray := if (decQ t).e ≠ 0 ∨ (decQ t).c ≠ c ∨ (decQ t).n ≠ t.size then ⟨#[]⟩ else (decQ t).raw
def opnE (c : Int) (t : ByteArray) : Int := if (decQ t).e ≠ 0 then (decQ t).e else if (decQ t).c ≠ c then 7 else if (decQ t).n ≠ t.size then 8 else 0

set_option maxRecDepth 100000 in
theorem ropen_any (c : Int) (t : ByteArray) (w : World) (hr : t.size ≤ maxLen - 2) : Calls Tryd.prog 22 #[.int .i64 c, .string t] w fun e w' => e = .returned (.tuple #[.string (opnS c t), .int .i64 (opnE c t)]) ∧ Below w.heap.size w w' := by
  have C := Lib.hid (fun (wx : World) => rdecp_any t wx hr)
  rw [decP_parts] at C
  unfold opnS opnE
  generalize decQ t = q at C ⊢
  obtain ⟨d, raw, n, x⟩ := q
  dsimp only at C ⊢
  by_cases hx : x = 0
  · subst hx
    by_cases hd : d = c
    · subst hd
      by_cases hn : n = t.size
      · subst hn
        rw [if_neg (by simp), if_neg (by simp), if_neg (by simp), if_neg (by simp)]
        go_enter Tryd.func22, Tryd.ntmps22
        go_wp2_with (go_at_call 20; (with_reducible refine (C.out _).mono ?_); rintro e w1 ⟨rfl, hb1⟩)
        go_ret2
        exact ⟨rfl, hb1.alloc hb1.size _⟩
      · have hn1 : (n != (t.size : Int)) = true := by simp [hn]
        rw [if_pos (.inr (.inr hn)), if_neg (by simp), if_neg (by simp), if_pos hn]
        go_enter Tryd.func22, Tryd.ntmps22
        go_wp2_with (go_at_call 20; (with_reducible refine (C.out _).mono ?_); rintro e w1 ⟨rfl, hb1⟩)
        go_ret2
        exact ⟨rfl, hb1.alloc hb1.size _⟩
    · have hd1 : (d != c) = true := by simp [hd]
      rw [if_pos (.inr (.inl hd)), if_neg (by simp), if_pos hd]
      go_enter Tryd.func22, Tryd.ntmps22
      go_wp2_with (go_at_call 20; (with_reducible refine (C.out _).mono ?_); rintro e w1 ⟨rfl, hb1⟩)
      go_ret2
      exact ⟨rfl, hb1.alloc hb1.size _⟩
  · have hx1 : (x != 0) = true := by simp [hx]
    rw [if_pos (.inl hx), if_pos hx]
    go_enter Tryd.func22, Tryd.ntmps22
    go_wp2_with (go_at_call 20; (with_reducible refine (C.out _).mono ?_); rintro e w1 ⟨rfl, hb1⟩)
    go_ret2
    exact ⟨rfl, hb1.alloc hb1.size _⟩

end Go.Proofs.YteammnfdhdhefaaDoor
