/- Contracts of the document's own Value, Digit, Parse, Number and Decode: each returns just what the program's function returns. -/
import Derived.Test.YteammnfdhdhefaaDoorBasg
import Derived.Test.YteammnfdhdhefaaDoorOrder
namespace Go.Proofs.YteammnfdhdhefaaDoor
open Go.ChangeShapes Go.WideShapes Go.ChangeAt Go.RowKit
set_option linter.unusedVariables false
set_option linter.unusedSimpArgs false

/-- None of the first k digits is the character c. -/
def NotYet (k c : Nat) : Prop := ∀ i, i < k → (dig i).toNat ≠ c

set_option maxRecDepth 100000 in
theorem rvalue_any (c : Nat) (w : World) (hc : c < 256) :
    Calls Tryd.prog 46 #[.int .u8 c] w fun e w' => e = .returned (.tuple #[.int .i64 (vnum c), .bool (vis c)]) ∧ w = w' := by
  go_enter Tryd.func46, Tryd.ntmps46
  go_wp2
  go_loop [5] (fun i => ∃ k : Nat, k ≤ 64 ∧ i = .int .i64 k ∧ NotYet k c) (fun i => 64 - (intOf i).toNat)
  case atStart => exact ⟨0, Nat.zero_le _, rfl, fun i hi => absurd hi (Nat.not_lt_zero _)⟩
  case round =>
    obtain ⟨k, hk, rfl, hny⟩ := hrel
    have HNY := Lib.hid hny
    clear hny
    by_cases hlt : k < 64
    · have ha := alph_get k
      by_cases hd : (dig k).toNat = c
      · have hv : val1 c = k + 1 := by rw [← hd]; exact val1_dig k hlt
        have e1 : vnum c = (k : Int) := by unfold vnum; rw [hv]; rfl
        have e2 : vis c = true := by unfold vis; rw [hv]; simp
        have E1 := Lib.hid e1
        have E2 := Lib.hid e2
        have hdd : (((dig k).toNat : Int) == (c : Int)) = true := by simp; omega
        clear hv e1 e2 hd
        go_wp2
        go_ret2
        rw [E1.out, E2.out]
        exact ⟨rfl, rfl⟩
      · have hdd : (((dig k).toNat : Int) == (c : Int)) = false := by simp; omega
        have HD := Lib.hid hd
        clear hd
        go_wp2
        go_round
        case rel =>
          refine ⟨k + 1, by omega, by go_num, fun i hi => ?_⟩
          by_cases hik : i = k
          · rw [hik]; exact HD.out
          · exact HNY.out i (by omega)
        case measure => simp [intOf]; omega
    · have hv : val1 c = 0 := by
        by_cases h : val1 c = 0
        · exact h
        · have h1 := val1_le c
          exact absurd (dig_val1 c h) (HNY.out (val1 c - 1) (by omega))
      have e1 : vnum c = 0 := by unfold vnum; rw [hv]; rfl
      have e2 : vis c = false := by unfold vis; rw [hv]; rfl
      have E1 := Lib.hid e1
      have E2 := Lib.hid e2
      clear hv e1 e2
      go_wp2
      go_ret2
      rw [E1.out, E2.out]
      exact ⟨rfl, rfl⟩

theorem rvalue_dig (c : Nat) (v : Nat) (w : World) (hc : c < 256) (hv : val1 c = v + 1) :
    Calls Tryd.prog 46 #[.int .u8 c] w fun e w' => e = .returned (.tuple #[.int .i64 v, .bool true]) ∧ w = w' :=
  (rvalue_any c w hc).mono fun e w' ⟨he, hw⟩ => ⟨by rw [he]; unfold vnum vis; rw [hv]; simp, hw⟩
theorem rvalue_not (c : Nat) (w : World) (hc : c < 256) (hv : val1 c = 0) :
    Calls Tryd.prog 46 #[.int .u8 c] w fun e w' => e = .returned (.tuple #[.int .i64 0, .bool false]) ∧ w = w' :=
  (rvalue_any c w hc).mono fun e w' ⟨he, hw⟩ => ⟨by rw [he]; unfold vnum vis; rw [hv]; simp, hw⟩




end Go.Proofs.YteammnfdhdhefaaDoor
