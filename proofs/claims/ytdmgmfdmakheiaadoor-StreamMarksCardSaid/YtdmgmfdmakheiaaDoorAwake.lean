/- Contracts of the small helpers: Mod, and the sanity check 'awake' of the statements of base64; the table of values out of what the rows list. -/
import Derived.Test.YtdmgmfdmakheiaaDoorBasf
import Derived.LaidMore
import Derived.Lib.LaidTab
import Derived.Stop.Joined
namespace Go.Proofs.YtdmgmfdmakheiaaDoor
open Go.ChangeShapes Go.WideShapes Go.ChangeAt Go.RowKit
set_option linter.unusedVariables false
set_option linter.unusedSimpArgs false


/-- Mod with a positive modulus is Euclid's remainder. -/
theorem mod_any (n : Int) (m : Nat) (w : World) (h1 : 1 ≤ m) (hm : m < 2 ^ 62) (hlo : -9223372036854775808 ≤ n) (hhi : n ≤ 9223372036854775807) :
    Calls Tryd.prog 17 #[.int .i64 n, .int .i64 m] w fun e w' => e = .returned (.int .i64 (n % (m : Int))) ∧ w = w' := by
  obtain ⟨r, hr⟩ : ∃ r, r = n.tmod (m : Int) := ⟨_, rfl⟩
  have h0 : ¬ (m : Int) = 0 := by omega
  have hr1 : -(m : Int) < r := by
    rw [hr]
    have a1 := Int.lt_tmod_of_pos n (b := (m : Int)) (by omega)
    omega
  have hr2 : r < (m : Int) := by rw [hr]; exact Int.tmod_lt_of_pos n (by omega)
  have hfin : (r + (m : Int)) % (m : Int) = n % (m : Int) := by
    rw [hr, Int.add_emod_right, Int.tmod_eq_emod]
    split
    · simp
    · rw [Int.sub_emod]
      simp
  have hfin2 : r % (m : Int) = n % (m : Int) := by rw [← hfin]; simp
  have HF2 := Lib.hid hfin2
  have HF := Lib.hid hfin
  have hr' : n.tmod (m : Int) = r := hr.symm
  have hmz : ((m : Int) == 0) = false := by simp; omega
  clear hr hfin hfin2
  by_cases hn : 0 ≤ n
  · have hr3 : n % (m : Int) = r := by rw [← hr', Int.tmod_eq_emod, if_pos (.inl hn)]; simp
    go_enter Tryd.func17, Tryd.ntmps17
    go_wp2
    go_ret
    first | (rw [HF.out]; exact ⟨rfl, rfl⟩) | (rw [HF2.out]; exact ⟨rfl, rfl⟩)
  · go_enter Tryd.func17, Tryd.ntmps17
    go_wp2
    go_ret
    first | (rw [HF.out]; exact ⟨rfl, rfl⟩) | (rw [HF2.out]; exact ⟨rfl, rfl⟩)

set_option maxRecDepth 100000 in
theorem encode_zeros (w : World) : Calls Tryd.prog 66 #[.string ⟨#[0, 0, 0]⟩] w fun e w' => e = .returned (.tuple #[.string ⟨#[65, 65, 65, 65]⟩, .int .i64 0]) ∧ Below w.heap.size w w' := by
  have e1 : strL (encL (⟨#[0, 0, 0]⟩ : ByteArray).data.toList) = ⟨#[65, 65, 65, 65]⟩ := by kernel_rfl
  have h := encode_any ⟨#[0, 0, 0]⟩ 1 w rfl (by decide)
  rw [e1] at h
  exact h

set_option maxRecDepth 100000 in
theorem encode_ones (w : World) : Calls Tryd.prog 66 #[.string ⟨#[255, 255, 255]⟩] w fun e w' => e = .returned (.tuple #[.string ⟨#[95, 95, 95, 95]⟩, .int .i64 0]) ∧ Below w.heap.size w w' := by
  have e1 : strL (encL (⟨#[255, 255, 255]⟩ : ByteArray).data.toList) = ⟨#[95, 95, 95, 95]⟩ := by kernel_rfl
  have h := encode_any ⟨#[255, 255, 255]⟩ 1 w rfl (by decide)
  rw [e1] at h
  exact h


end Go.Proofs.YtdmgmfdmakheiaaDoor
