/- The walk of the statement Base64Limits: whatever 'more' and 'digits' are, the Go text returns true. -/
import Derived.Test.YtgpilklgaipboaaAwake
import Derived.Test.YtgpilklgaipboaaRefa
namespace Go.Proofs.Ytgpilklgaipboaa
open Go.ChangeShapes Go.WideShapes Go.ChangeAt Go.RowKit
set_option linter.unusedVariables false
set_option linter.unusedSimpArgs false

theorem lim_pow (k : Nat) (h1 : 1 ≤ k) (h9 : k ≤ 8) : ∃ M M' : Nat, 64 ^ k = M ∧ M' + 1 = M ∧ M ≤ 281474976710656 ∧ 1 ≤ M ∧ (M : Int) - 1 = (M' : Int) ∧ ∀ q : Nat, q = k → wrap64 ((2 : Int) ^ (6 * q)) = (M : Int) := by
  have e : (64 : Nat) ^ k = 2 ^ (6 * k) := by rw [show (64 : Nat) = 2 ^ 6 by decide, ← Nat.pow_mul]
  obtain ⟨M, hM⟩ : ∃ M, 64 ^ k = M := ⟨_, rfl⟩
  have hM1 : 0 < M := by rw [← hM, e]; exact Nat.two_pow_pos _
  have hM2 : M ≤ 281474976710656 := by rw [← hM]; exact Nat.pow_le_pow_right (n := 64) (by decide) h9
  have e2 : ((2 : Int) ^ (6 * k)) = (M : Int) := by rw [← hM, e]; simp
  refine ⟨M, M - 1, hM, by clear hM e e2; omega, hM2, hM1, by clear hM e e2; omega, ?_⟩
  rintro q rfl
  rw [e2]
  clear hM e e2
  exact IntWalk.wrap64_in _ ⟨by omega, by omega⟩

set_option maxRecDepth 100000 in
theorem limits_walk (a0 a1 : Int) (w : World) (h0 : 0 ≤ a0) (h255 : a0 ≤ 255) (hlo : -9223372036854775808 ≤ a1) (hhi : a1 ≤ 9223372036854775807) :
    Calls Try.prog 3 #[.int .u8 a0, .int .i64 a1] w fun e w' => e = .returned (.bool true) ∧ Below w.heap.size w w' := by
  obtain ⟨i0, hi, hz0, hz1, hz2⟩ := info_parts Try.info5
  obtain ⟨N, hN⟩ : ∃ N : Nat, (65535 : Int) + 3 * (a0 % 2) = (N : Int) := ⟨(65535 + 3 * (a0 % 2)).toNat, by omega⟩
  have hNb : N ≤ 65538 := by omega
  obtain ⟨k0, hk⟩ : ∃ k : Nat, a1 % 8 = (k : Int) := ⟨(a1 % 8).toNat, by omega⟩
  have hk8 : k0 < 8 := by omega
  have hmod := fun w => mod_any a1 8 w (by decide) (by decide) hlo hhi
  have e8 : ((8 : Nat) : Int) = 8 := rfl
  rw [e8, hk] at hmod
  have HM := Lib.hid hmod
  obtain ⟨k, hkk⟩ : ∃ k, k = k0 + 1 := ⟨_, rfl⟩
  have h1k : 1 + (k0 : Int) = (k : Int) := by omega
  have hk1 : 1 ≤ k := by omega
  have hk9 : k ≤ 8 := by omega
  clear hmod hk e8 hkk hk8 hlo hhi
  obtain ⟨z, hz⟩ : ∃ z : ByteArray, z = strL (List.replicate N 0) := ⟨_, rfl⟩
  have hzs : z.size ≤ maxLen := by rw [hz]; show (List.replicate N (0 : UInt8)).toArray.size ≤ _; simp [maxLen]; omega
  have HZ := Lib.hid hz
  clear hz
  have hcv : ∀ {w1 : World} {B : Nat} {v : Value}, w1.ownsRow B 5 1 v N (madeCells (Value.int .u8 0).cells (N * 1)).toList → (convert 25 9 v).run Try.prog w1 = .ok (.string z) w1 := by
    intro w1 B v hown
    rw [show (Value.int .u8 0).cells = #[.int .u8 0] from rfl, toList_madeCells_one, Nat.mul_one] at hown
    rw [HZ.out]
    exact conv_owns (P := Try.prog) w1 25 9 5 B N v (List.replicate N 0) (by simpa using hown) Try.underlying25 Try.underlying5 Try.underlying9
  have HC : Hid (∀ (w1 : World) (B : Nat) (v : Value), w1.ownsRow B 5 1 v N (madeCells (Value.int .u8 0).cells (N * 1)).toList → (convert 25 9 v).run Try.prog w1 = .ok (.string z) w1) := fun _ _ _ h => hcv h
  clear hcv
  obtain ⟨M, M', hM, hM', hM2, hM1, hsub, hpow⟩ := lim_pow k hk1 hk9
  have hin := fun w => number_in M' k w hk1 hk9 (by rw [hM]; omega)
  have hbig := fun w => number_big M k w hk1 hk9 (by rw [hM]; exact Nat.le_refl _) (Nat.le_trans hM2 (by decide))
  obtain ⟨d, hd⟩ : ∃ d, d = strL (digsL M' k) := ⟨_, rfl⟩
  rw [← hd] at hin
  have hds : d.size = k := by rw [hd]; show (digsL M' k).toArray.size = _; simp [digsL_length]
  have hext : ({ data := #[95, 95, 95, 95, 95, 95, 95, 95] } : ByteArray).extract 0 k = d := by
    have all : ∀ k : Fin 9, digsL (64 ^ k.val - 1) k.val = ([95, 95, 95, 95, 95, 95, 95, 95] : List UInt8).take k.val := by decide +kernel
    have h1 := ext_data { data := #[95, 95, 95, 95, 95, 95, 95, 95] } 0 k
    rw [List.drop_zero] at h1
    have h2 := all ⟨k, by omega⟩
    apply ByteArray.ext
    apply Array.toList_inj.1
    rw [hd, show M' = 64 ^ k - 1 by rw [hM]; omega, h1]
    exact h2.symm
  have HIN := Lib.hid hin
  have HBIG := Lib.hid hbig
  clear hin hbig hM hM' hd
  have hB : Below w.heap.size w w := Below.refl _ _
  go_enter Try.func3, Try.ntmps3
  go_wp2_with (first
    | (at_make; refine wpList_make_full _ rfl _ _ 25 rfl _ 5 i0 (.int .u8 0) 1 Try.underlying25 hi hz0 hz1 .i64 .i64 _ _ N rfl rfl rfl rfl (by rw [hz2]; omega) (by unfold maxLen; omega) (Nat.le_refl _) ?_; intro w1 hown hgrow; replace hB := hB.grown hgrow hB.size (fun _ e => by cases e); have hcv := HC.out _ _ _ hown; clear hown hgrow)
    | (go_at_call 4; refine (encode_full z _ hzs).mono ?_; rintro e w2 ⟨rfl, hb2⟩; replace hB := hB.trans (hb2.mono hB.size); clear hb2)
    | (go_at_call 5; refine (rencode_full z _ hzs).mono ?_; rintro e w2 ⟨rfl, hb2⟩; replace hB := hB.trans (hb2.mono hB.size); clear hb2)
    | (go_at_call 6; refine (HM.out _).mono ?_; rintro e w2 ⟨rfl, rfl⟩)
    | (go_at_call 7; first | ((with_reducible refine (HIN.out _).mono ?_); rintro e w2 ⟨rfl, hb2⟩; replace hB := hB.trans (hb2.mono hB.size); clear hb2) | ((with_reducible refine (HBIG.out _).mono ?_); rintro e w2 ⟨rfl, rfl⟩))
    | (go_at_call 8; refine (awake_any _).mono ?_; rintro e w2 ⟨rfl, hb2⟩; replace hB := hB.trans (hb2.mono hB.size); clear hb2))
  go_ret
  exact ⟨rfl, hB⟩

end Go.Proofs.Ytgpilklgaipboaa
