/- Slices of strings that came in: what a walk reads of them, and that no string is longer than the form's reach. For every program. -/
import Derived.Test.YthcgkkafbobfoaaDoorMem
import Derived.SliceStrings
import Derived.SizedLaws
namespace Go.Proofs.YthcgkkafbobfoaaDoor
open Go Go.RowKit Go.ChangeShapes
set_option linter.unusedVariables false
set_option linter.unusedSimpArgs false

/-- A slice of len strings ls. -/
def IsStrs (w : World) (a : Option Addr) (len : Nat) (ls : List ByteArray) : Prop :=
  ls.length = len ∧ ∀ i, i < len → ∃ b off, a = some ⟨b, off, none⟩ ∧ b < w.heap.size ∧ w.cell? ⟨b, off + i, none⟩ = some (.string (ls.getD i ByteArray.empty))
theorem weights_strs {H : Type} {P : Program} (t : TypeId) : ∀ (ss : List ByteArray) (s : ByteArray), s ∈ ss → s.size ∈ DataW.weightsAll P t (strs ss : List (DataW H))
  | x :: r, s, h => by
    have hx : (strs (x :: r) : List (DataW H)) = .lit (.string x.data.toList) :: strs r := rfl
    rw [hx]
    simp only [DataW.weightsAll, DataW.weights, List.mem_append, List.mem_singleton]
    rcases List.mem_cons.1 h with rfl | h
    · left; simp
    · exact .inr (weights_strs t r s h)
open Go.ChangeShapes Go.WideShapes Go.ChangeAt in
theorem isStrs_open {H : Type} {enc : TypeId × Value → H} {P : Program} {W : World} {t e : TypeId} {a : Option Addr} {len cap : Nat} {d : DataW H} {p : List MemPlace}
    (ht : P.underlying t = some (.slice e)) (he : P.underlying e = some .string) (hce : P.cellsOf e = 1) (h : DataW.Trod enc P W 0 (fun _ => true) true t (.slice a len cap) d p)
    (hw : ∀ n ∈ d.weights P t, n ≤ reachBytes) : ∃ ls, IsStrs W a len ls ∧ len ≤ cap ∧ cap ≤ maxLen ∧ ∀ s ∈ ls, s.size ≤ reachBytes := by
  obtain ⟨fuel, hf⟩ := h
  rcases open_strings ht he hce hf with ⟨hcs, _⟩ | ⟨x, l, c, ss, hcs, _, hl, hm, hz, hx, hcell, _⟩
  · simp [Value.cells] at hcs
    obtain ⟨rfl, rfl, rfl⟩ := hcs
    exact ⟨[], ⟨rfl, fun i hi => absurd hi (Nat.not_lt_zero _)⟩, Nat.le_refl _, Nat.zero_le _, fun s hs => by cases hs⟩
  · simp [Value.cells] at hcs
    obtain ⟨rfl, rfl, rfl⟩ := hcs
    have hz' : ss.length = cap := by simpa using hz
    refine ⟨ss.take len, ⟨by simp [hz']; omega, fun i hi => ?_⟩, hl, hm, fun s hs => ?_⟩
    · have hc := hcell i (by omega)
      have hc0 := hcell 0 (by omega)
      obtain ⟨b, off, spot⟩ := x
      have hspot : spot = none := by simpa [Addr.add] using World.cell?_spot hc0
      subst hspot
      rw [Addr.add_lit] at hc
      refine ⟨b, off, rfl, cell_lt hc, ?_⟩
      rw [hc]
      congr 2
      simp [List.getD, List.getElem?_take, hi]
    · have hd := congrArg Prod.fst hx
      simp only at hd
      refine hw _ ?_
      rw [hd]
      simp only [DataW.weights, ht, List.mem_cons, List.mem_append]
      exact .inr (.inl (weights_strs e _ s hs))
end Go.Proofs.YthcgkkafbobfoaaDoor
