/- The walk of the statement JsonWrites: for all choices and every node the Go text returns true, provided that the tables read as the program lays them. -/
import Derived.Test.YtpjabbhhepdkfaaGreatDoorJawk
import Derived.Test.YtpjabbhhepdkfaaGreatDoorNputs
import Derived.Test.YtpjabbhhepdkfaaGreatDoorPlan
namespace Go.Proofs.YtpjabbhhepdkfaaGreatDoor
open Go Go.ChangeShapes Go.WideShapes Go.ChangeAt Go.RowKit
set_option linter.unusedVariables false
set_option linter.unusedSimpArgs false

theorem lowV_flat {D : Nat} {x : ND} (h : ∀ y, y ∈ x.items → y.items = []) (hl : x.items.length ≤ 1000000) : lowV D x := by
  cases D with
  | zero => trivial
  | succ D =>
    refine ⟨hl, fun y hy => ?_⟩
    cases D with
    | zero => trivial
    | succ D => rw [show lowV (D + 1) y = (y.items.length ≤ 1000000 ∧ ∀ z, z ∈ y.items → lowV D z) from rfl, h y hy]; exact ⟨Nat.zero_le _, fun z hz => by cases hz⟩
theorem lowV_valid {d : Nat} {x : ND} (h : validN d x = true) (D : Nat) : lowV D x := lowV_of_valid d D x h
theorem NumsB.go {w w' : World} {a : Option Addr} {len cap : Nat} {zs : List Int} (h : NumsB w.heap.size w a len cap zs) (hb : Below w.heap.size w w') : NumsB w'.heap.size w' a len cap zs := by
  obtain ⟨h1, h2, h3, h4⟩ := h.same fun j hj => hb.block j hj
  refine ⟨h1, h2, fun i hi => ?_, h4⟩
  obtain ⟨b, off, e, hbB, hc⟩ := h3 i hi
  exact ⟨b, off, e, Nat.lt_of_lt_of_le hbB hb.size, hc⟩
/-- What is asked of a node that is encoded twice. -/
def TryN (D : Nat) (x : ND) : Prop := lowV D x ∧ FineN x
theorem leafK (k n : Int) : ∀ y, y ∈ (ND.mk k false n ⟨#[]⟩ [] []).items → y.items = [] := fun y hy => by cases hy
theorem nums_leaf (k n : Int) (h : wideI n = true) : numsB 8 (.mk k false n ⟨#[]⟩ [] []) = true := by
  rw [numsB_succ, Bool.and_eq_true]; exact ⟨h, rfl⟩
end Go.Proofs.YtpjabbhhepdkfaaGreatDoor
