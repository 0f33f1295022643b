/- The kit's Node and Map, whatever the depth. -/
import Derived.Test.YthcgkkafbobfoaaDoorNnode
namespace Go.Proofs.YthcgkkafbobfoaaDoor
set_option linter.unusedVariables false
theorem knode_any (B g : Nat) : ∀ n : Nat, 1 ≤ n → n < 100 → ∀ w : World, DiceAt B w g → Calls Tryd.prog 13 #[.pointer (some ⟨g, 0, none⟩), .int .i64 (n : Int)] w fun e w' => SomeNode n w e w' ∧ w.grownBy w' (some g) ∧ DiceAt B w' g
  | 0, h, _, _, _ => absurd h (by decide)
  | n + 1, h1, h2, w, hd => knode_step B g (n + 1) w h1 h2 hd fun h wx hx => by
    have := knode_any B g n (by omega) (by omega) wx hx
    rw [show ((n + 1 : Nat) : Int) - 1 = (n : Int) by omega, Nat.add_sub_cancel]
    exact this
theorem knode_lit (B g n : Nat) (z : Int) (hz : (n : Int) = z) (h1 : 1 ≤ n) (h2 : n < 100) (w : World) (hd : DiceAt B w g) : Calls Tryd.prog 13 #[.pointer (some ⟨g, 0, none⟩), .int .i64 z] w fun e w' => SomeNode n w e w' ∧ w.grownBy w' (some g) ∧ DiceAt B w' g := hz ▸ knode_any B g n h1 h2 w hd
theorem kmap_lit (B g n : Nat) (z : Int) (hz : (n : Int) = z) (h1 : 2 ≤ n) (h2 : n < 100) (w : World) (hd : DiceAt B w g) : Calls Tryd.prog 12 #[.pointer (some ⟨g, 0, none⟩), .int .i64 z] w fun e w' => SomeMap n w e w' ∧ w.grownBy w' (some g) ∧ DiceAt B w' g :=
  hz ▸ kmap_any B g n w h1 h2 hd fun wx hx => by
    have := knode_any B g (n - 1) (by omega) (by omega) wx hx
    rw [show ((n - 1 : Nat) : Int) = (n : Int) - 1 by omega] at this
    exact this
end Go.Proofs.YthcgkkafbobfoaaDoor
