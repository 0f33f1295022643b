/- Contracts of the small helpers: Mod, and the sanity check 'awake' of the statements of base64; the table of values out of what the rows list. -/
import Derived.Test.YtefhhfpdponabaaBasf
import Derived.LaidMore
import Derived.Lib.LaidTab
import Derived.Stop.Joined
namespace Go.Proofs.Ytefhhfpdponabaa
open Go.ChangeShapes Go.WideShapes Go.ChangeAt Go.RowKit
set_option linter.unusedVariables false
set_option linter.unusedSimpArgs false


/-- Mod with a positive modulus is Euclid's remainder. -/
theorem mod_any (n : Int) (m : Nat) (w : World) (h1 : 1 ≤ m) (hm : m < 2 ^ 62) (hlo : -9223372036854775808 ≤ n) (hhi : n ≤ 9223372036854775807) :
    Calls Try.prog 14 #[.int .i64 n, .int .i64 m] w fun e w' => e = .returned (.int .i64 (n % (m : Int))) ∧ w = w' := by
  obtain ⟨r, hr⟩ : ∃ r, r = n.tmod (m : Int) := ⟨_, rfl⟩
  have h0 : ¬ (m : Int) = 0 := by omega
  have hr1 : -(m : Int) < r := by
    rw [hr]
    have a1 := Int.lt_tmod_of_pos n (b := (m : Int)) (by omega)
    omega
  have hr2 : r < (m : Int) := by rw [hr]; exact Int.tmod_lt_of_pos n (by omega)
  have hfin : (r + (m : Int)) % (m : Int) = n % (m : Int) := by
    rw [hr, Int.add_emod_right, Int.tmod_eq_emod]
    split
    · simp
    · rw [Int.sub_emod]
      simp
  have hfin2 : r % (m : Int) = n % (m : Int) := by rw [← hfin]; simp
  have HF2 := Lib.hid hfin2
  have HF := Lib.hid hfin
  have hr' : n.tmod (m : Int) = r := hr.symm
  have hmz : ((m : Int) == 0) = false := by simp; omega
  clear hr hfin hfin2
  by_cases hn : 0 ≤ n
  · have hr3 : n % (m : Int) = r := by rw [← hr', Int.tmod_eq_emod, if_pos (.inl hn)]; simp
    go_enter Try.func14, Try.ntmps14
    go_wp2
    go_ret
    first | (rw [HF.out]; exact ⟨rfl, rfl⟩) | (rw [HF2.out]; exact ⟨rfl, rfl⟩)
  · go_enter Try.func14, Try.ntmps14
    go_wp2
    go_ret
    first | (rw [HF.out]; exact ⟨rfl, rfl⟩) | (rw [HF2.out]; exact ⟨rfl, rfl⟩)




end Go.Proofs.Ytefhhfpdponabaa
