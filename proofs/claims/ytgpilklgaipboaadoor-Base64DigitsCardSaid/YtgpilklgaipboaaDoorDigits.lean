/- The walk of the statement Base64Digits: whatever n is, the Go text returns true, provided that the table of values reads as the program lays it. -/
import Derived.Test.YtgpilklgaipboaaDoorAwake
namespace Go.Proofs.YtgpilklgaipboaaDoor
open Go.ChangeShapes Go.WideShapes Go.ChangeAt Go.RowKit
set_option linter.unusedVariables false
set_option linter.unusedSimpArgs false

/-- How many of the first c characters are the digit with number k: one, once it has been passed. -/
def passed (k c : Nat) : Nat := if (dig k).toNat < c then 1 else 0
theorem passed_hit (k c : Nat) (hk : k < 64) (h : val1 c = k + 1) : passed k (c + 1) = passed k c + 1 := by
  have e : (dig k).toNat = c := by
    have := dig_val1 c (by omega)
    rw [h] at this; simpa using this
  unfold passed
  rw [e, if_pos (by omega), if_neg (by omega)]
theorem passed_miss (k c : Nat) (hk : k < 64) (h : val1 c ≠ k + 1) : passed k (c + 1) = passed k c := by
  have e : (dig k).toNat ≠ c := by
    intro e
    have := val1_dig k hk
    rw [e] at this; omega
  unfold passed
  by_cases h2 : (dig k).toNat < c
  · rw [if_pos (by omega), if_pos h2]
  · rw [if_neg (by omega), if_neg h2]
theorem passed_le (k c : Nat) : passed k c ≤ 1 := by unfold passed; split <;> omega
theorem passed_all (k : Nat) : passed k 256 = 1 := by
  unfold passed; rw [if_pos]; have := UInt8.toNat_lt (dig k); omega

set_option maxRecDepth 100000 in
theorem digits_walk (n : Int) (w : World) (hlo : -9223372036854775808 ≤ n) (hhi : n ≤ 9223372036854775807) (hT : Tab w) (h0 : 1 ≤ w.heap.size) :
    Calls Tryd.prog 6 #[.int .i64 n] w fun e w' => e = .returned (.bool true) ∧ Below w.heap.size w w' := by
  obtain ⟨k, hk⟩ : ∃ k : Nat, n % 64 = (k : Int) := ⟨(n % 64).toNat, by omega⟩
  have hk64 : k < 64 := by omega
  have hmod := mod_any n 64 w (by decide) (by decide) hlo hhi
  have e64 : ((64 : Nat) : Int) = 64 := rfl
  rw [e64, hk] at hmod
  have HM := Lib.hid hmod
  have HT := Lib.hid hT
  clear hmod hk e64 hT
  go_enter Tryd.func6, Tryd.ntmps6
  go_wp2_with (go_at_call 14; refine (HM.out).mono ?_; rintro e w' ⟨rfl, rfl⟩)
  go_loop [4, 18] (fun f i => ∃ c : Nat, c ≤ 256 ∧ i = .int .i64 c ∧ f = .int .i64 (passed k c)) (fun _ i => 256 - (intOf i).toNat)
  case atStart => exact ⟨0, by omega, rfl, by simp [passed]⟩
  case round =>
    obtain ⟨c, hc, rfl, rfl⟩ := hrel
    have hp1 := passed_le k c
    by_cases hlt : c < 256
    · by_cases hz : val1 c = 0
      · have hv := value_not c w hlt hz HT.out
        have hm := passed_miss k c hk64 (by omega)
        have HV := Lib.hid hv
        have HP := Lib.hid hm
        clear hv hm hz
        go_wp2_with (go_at_call 20; refine (HV.out).mono ?_; rintro e w' ⟨rfl, rfl⟩)
        go_round
        case rel => exact ⟨c + 1, by omega, by go_num, by rw [HP.out]⟩
        case measure => simp [intOf]; omega
      · by_cases hh : val1 c = k + 1
        · have hv := value_dig c k w hlt hh HT.out
          have hm := passed_hit k c hk64 hh
          have HV := Lib.hid hv
          have HP := Lib.hid hm
          clear hv hm hz hh
          go_wp2_with (go_at_call 20; refine (HV.out).mono ?_; rintro e w' ⟨rfl, rfl⟩)
          go_round
          case rel => exact ⟨c + 1, by omega, by go_num, by rw [HP.out]; go_num⟩
          case measure => simp [intOf]; omega
        · obtain ⟨v, hvv⟩ : ∃ v, val1 c = v + 1 := ⟨val1 c - 1, by omega⟩
          have hv := value_dig c v w hlt hvv HT.out
          have hm := passed_miss k c hk64 hh
          have hne : ((v : Int) == (k : Int)) = false := by simp; omega
          have HV := Lib.hid hv
          have HP := Lib.hid hm
          clear hv hm hz hh hvv
          go_wp2_with (go_at_call 20; refine (HV.out).mono ?_; rintro e w' ⟨rfl, rfl⟩)
          go_round
          case rel => exact ⟨c + 1, by omega, by go_num, by rw [HP.out]⟩
          case measure => simp [intOf]; omega
    · have : c = 256 := by omega
      subst this
      rw [passed_all]
      have hd := digit_in k w hk64
      have hv := value_dig (dig k).toNat k w (UInt8.toNat_lt _) (val1_dig k hk64) HT.out
      have hm1 := digit_out (-1) w (by omega)
      have h64 := digit_out 64 w (by omega)
      have HD := Lib.hid hd
      have HV := Lib.hid hv
      have H1 := Lib.hid hm1
      have H64 := Lib.hid h64
      clear hd hv hm1 h64 hp1 hlt hc
      go_wp2_with (first | (go_at_call 20; refine (HV.out).mono ?_; rintro e w' ⟨rfl, rfl⟩) | (go_at_call 18; first | ((with_reducible refine (HD.out).mono ?_); rintro e w' ⟨rfl, rfl⟩) | ((with_reducible refine (H1.out).mono ?_); rintro e w' ⟨rfl, rfl⟩) | ((with_reducible refine (H64.out).mono ?_); rintro e w' ⟨rfl, rfl⟩)) | (go_at_call 7; refine (awake_any _).mono ?_; rintro e w' ⟨rfl, hb⟩))
      go_ret
      exact ⟨rfl, hb⟩

end Go.Proofs.YtgpilklgaipboaaDoor
