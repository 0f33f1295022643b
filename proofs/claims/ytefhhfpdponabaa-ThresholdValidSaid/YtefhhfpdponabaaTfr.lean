/- The document's gcd and weight; fractions in memory. -/
import Derived.Test.YtefhhfpdponabaaTset
import Derived.Test.YtefhhfpdponabaaPkit
import Derived.Test.YtefhhfpdponabaaPlan
import Derived.Test.YtefhhfpdponabaaArr
namespace Go.Proofs.Ytefhhfpdponabaa
open Go.ChangeShapes Go.WideShapes Go.ChangeAt Go.RowKit
set_option linter.unusedVariables false
set_option linter.unusedSimpArgs false

def in64 (n : Int) : Prop := -9223372036854775808 ≤ n ∧ n ≤ 9223372036854775807
set_option maxRecDepth 100000 in
theorem rgcd_any (a b : Nat) (w : World) (ha : a < 9223372036854775808) (hb : b < 9223372036854775808) : Calls Try.prog 33 #[.int .i64 a, .int .i64 b] w fun e w' => e = .returned (.int .i64 (Nat.gcd a b : Nat)) ∧ Below w.heap.size w w' := by
  obtain ⟨g, hg⟩ : ∃ g, g = Nat.gcd a b := ⟨_, rfl⟩
  rw [← hg]
  go_enter Try.func33, Try.ntmps33
  go_wp2
  go_loopw [0, 1] (fun x y wr => ∃ a b : Nat, a < 9223372036854775808 ∧ b < 9223372036854775808 ∧ x = .int .i64 a ∧ y = .int .i64 b ∧ Hid (g = Nat.gcd a b) ∧ Below w.heap.size w wr) (fun _ y _ => (intOf y).toNat)
  case atStart => exact ⟨a, b, ha, hb, rfl, rfl, Lib.hid hg, Below.refl _ _⟩
  case round =>
    clear ha hb hg
    obtain ⟨a, b, ha, hb, rfl, rfl, hg, hB⟩ := hrel
    by_cases h0 : b = 0
    · subst h0
      have e : g = a := by rw [hg.out, Nat.gcd_zero_right]
      subst e
      go_wp2
      go_ret
      exact ⟨rfl, hB⟩
    · have h0i : ¬ ((b : Int) = 0) := by omega
      have hb0 : ((b : Int) != 0) = true := by simp; omega
      have hm : Int.tmod (a : Int) (b : Int) = ((a % b : Nat) : Int) := by rw [Int.tmod_eq_emod_of_nonneg (by omega)]; rfl
      have hlt : a % b < b := Nat.mod_lt _ (by omega)
      have hg' : Hid (g = Nat.gcd b (a % b)) := Lib.hid (hg.out.trans ((Nat.gcd_comm a b).trans ((Nat.gcd_rec b a).trans (Nat.gcd_comm _ _))))
      obtain ⟨c, hc⟩ : ∃ c, c = a % b := ⟨_, rfl⟩
      rw [← hc] at hm hlt hg'
      clear hc hg
      go_upto_region 2 with fail
      go_quiet (fail)
      go_wp2
      exact ⟨⟨b, c, hb, by omega, rfl, rfl, hg', belowN hB _⟩, by simp only [intOf]; omega⟩
set_option maxRecDepth 100000 in
theorem rweight_any (n d : Int) (w : World) (hn : in64 n) (hd : in64 d) : Calls Try.prog 32 #[.agg #[.int .i64 n, .int .i64 d]] w fun e w' => e = .returned (.bool (wtB (n, d))) ∧ Below w.heap.size w w' := by
  have hno : (¬ (1 ≤ d ∧ d ≤ 100 ∧ 0 ≤ n ∧ n ≤ d)) → wtB (n, d) = false := fun h => by
    cases e : wtB (n, d) with
    | false => rfl
    | true => have := (wtB_iff _).1 e; exact absurd ⟨this.1, this.2.1, this.2.2.1, this.2.2.2.1⟩ h
  unfold in64 at hn hd
  have b0 := (Below.refl w.heap.size w).alloc (o := .cells #[.int .i64 n, .int .i64 d] 39) (Nat.le_refl _)
  have c0 := two_new w (.int .i64 n) (.int .i64 d) 39
  obtain ⟨c1, c2⟩ := c0
  by_cases h1 : 1 ≤ d
  rotate_left
  · rw [hno (fun h => h1 h.1)]
    go_enter Try.func32, Try.ntmps32
    go_wp2
    go_ret
    exact ⟨rfl, b0⟩
  by_cases h2 : d ≤ 100
  rotate_left
  · rw [hno (fun h => h2 h.2.1)]
    go_enter Try.func32, Try.ntmps32
    go_wp2
    go_ret
    exact ⟨rfl, b0⟩
  by_cases h3 : 0 ≤ n
  rotate_left
  · rw [hno (fun h => h3 h.2.2.1)]
    go_enter Try.func32, Try.ntmps32
    go_wp2
    go_ret
    exact ⟨rfl, b0⟩
  by_cases h4 : n ≤ d
  rotate_left
  · rw [hno (fun h => h4 h.2.2.2)]
    go_enter Try.func32, Try.ntmps32
    go_wp2
    go_ret
    exact ⟨rfl, b0⟩
  obtain ⟨a, ha⟩ : ∃ a : Nat, n = (a : Int) := ⟨n.toNat, by omega⟩
  obtain ⟨b, hb⟩ : ∃ b : Nat, d = (b : Int) := ⟨d.toNat, by omega⟩
  have hw : wtB (n, d) = ((Nat.gcd a b : Int) == 1) := by
    rw [Bool.eq_iff_iff, wtB_iff, beq_iff_eq]
    show _ ∧ _ ∧ _ ∧ _ ∧ Nat.gcd n.toNat d.toNat = 1 ↔ _
    rw [ha, hb, Int.toNat_natCast, Int.toNat_natCast]
    constructor
    · intro h; have := h.2.2.2.2; omega
    · intro h; exact ⟨by omega, by omega, by omega, by omega, by omega⟩
  rw [hw]
  subst ha hb
  have G := Lib.hid (fun wx => rgcd_any a b wx (by omega) (by omega))
  generalize Nat.gcd a b = g at G ⊢
  clear hw hno hn hd
  go_enter Try.func32, Try.ntmps32
  go_wp2_with (go_at_call 33; (with_reducible refine (G.out _).mono ?_); rintro e w1 ⟨rfl, hb1⟩)
  go_ret
  exact ⟨rfl, b0.trans (hb1.mono b0.size)⟩
end Go.Proofs.Ytefhhfpdponabaa
