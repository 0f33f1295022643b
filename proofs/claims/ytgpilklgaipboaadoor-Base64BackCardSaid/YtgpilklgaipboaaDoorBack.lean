/- The walk of the statement Base64Back: whatever the string and the numbers are, the Go text returns true, provided that the table of values reads as the program lays it. -/
import Derived.Test.YtgpilklgaipboaaDoorAwake
import Derived.Test.YtgpilklgaipboaaDoorBasg
import Derived.Test.YtgpilklgaipboaaDoorMath
namespace Go.Proofs.YtgpilklgaipboaaDoor
open Go.ChangeShapes Go.WideShapes Go.ChangeAt Go.RowKit
set_option linter.unusedVariables false
set_option linter.unusedSimpArgs false

set_option maxRecDepth 100000 in
theorem back_big (s : ByteArray) (a1 a2 : Int) (w : World) (hl : 600 < s.size) (hm : s.size ≤ maxLen) :
    Calls Tryd.prog 4 #[.string s, .int .i64 a1, .int .i64 a2] w fun e w' => e = .returned (.bool true) ∧ Below w.heap.size w w' := by
  unfold maxLen at hm
  go_enter Tryd.func4, Tryd.ntmps4
  go_wp2_with (go_at_call 7; refine (awake_any _).mono ?_; rintro e w2 ⟨rfl, hb2⟩)
  go_ret
  exact ⟨rfl, hb2⟩

/-- 64 to the power of k, and what stands of it in the walk. -/
theorem back_pow (k : Nat) (h9 : k ≤ 8) : ∃ M : Nat, 64 ^ k = M ∧ M ≤ 281474976710656 ∧ 1 ≤ M ∧ ∀ q : Nat, q = k → wrap64 ((2 : Int) ^ (6 * q)) = (M : Int) := by
  have e : (64 : Nat) ^ k = 2 ^ (6 * k) := by rw [show (64 : Nat) = 2 ^ 6 by decide, ← Nat.pow_mul]
  obtain ⟨M, hM⟩ : ∃ M, 64 ^ k = M := ⟨_, rfl⟩
  have hM1 : 0 < M := by rw [← hM, e]; exact Nat.two_pow_pos _
  have hM2 : M ≤ 281474976710656 := by rw [← hM]; exact Nat.pow_le_pow_right (n := 64) (by decide) h9
  have e2 : ((2 : Int) ^ (6 * k)) = (M : Int) := by rw [← hM, e]; simp
  refine ⟨M, hM, hM2, hM1, ?_⟩
  rintro q rfl
  rw [e2]
  clear hM e e2
  exact IntWalk.wrap64_in _ ⟨by omega, by omega⟩

set_option maxRecDepth 100000 in
theorem back_walk (s : ByteArray) (a1 a2 : Int) (w : World) (hl : s.size ≤ 600) (h1lo : -9223372036854775808 ≤ a1) (h1hi : a1 ≤ 9223372036854775807) (h2lo : -9223372036854775808 ≤ a2) (h2hi : a2 ≤ 9223372036854775807) (hT : Tab w) (h0 : 1 ≤ w.heap.size) :
    Calls Tryd.prog 4 #[.string s, .int .i64 a1, .int .i64 a2] w fun e w' => e = .returned (.bool true) ∧ Below w.heap.size w w' := by
  obtain ⟨q, hq⟩ : ∃ q : Nat, (s.size : Int) / 3 = (q : Int) := ⟨s.size / 3, by omega⟩
  have hq200 : q ≤ 200 := by omega
  have hql : q * 3 ≤ s.size := by omega
  -- the bytes, their text
  obtain ⟨x, hx⟩ : ∃ x, x = s.extract 0 (q * 3) := ⟨_, rfl⟩
  have hxl : x.data.toList.length = 3 * q := by
    rw [hx, ext_data, List.drop_zero, List.length_take, Array.length_toList]
    show min _ s.size = _
    omega
  have hxs : x.size = q * 3 := by have : x.data.toList.length = x.size := by rw [Array.length_toList]; rfl
                                  omega
  obtain ⟨D, hD⟩ : ∃ D, D = encL x.data.toList := ⟨_, rfl⟩
  have hDl : D.length = 4 * q := by rw [hD]; exact encL_length q _ hxl
  have hDa : allD D = true := by rw [hD]; exact allD_encL q _ hxl
  have hDx : decL D = x.data.toList := by rw [hD]; exact decL_encL q _ hxl
  obtain ⟨t, ht⟩ : ∃ t, t = strL D := ⟨_, rfl⟩
  have htl : t.data.toList = D := by rw [ht]; rfl
  have hts : t.size = 4 * q := by have : t.data.toList.length = t.size := by rw [Array.length_toList]; rfl
                                  rw [htl] at this; omega
  have henc : ∀ wx : World, Calls Tryd.prog 9 #[.string x] wx fun e w' => e = .returned (.tuple #[.string t, .int .i64 0]) ∧ Below wx.heap.size wx w' := by
    intro wx
    have h := encode_any x q wx (by omega) (by omega)
    rw [← hD, ← ht] at h
    exact h
  have hdec : ∀ wx : World, Tab wx → 1 ≤ wx.heap.size → Calls Tryd.prog 11 #[.string t] wx fun e w' => e = .returned (.tuple #[.string x, .int .i64 0]) ∧ Below wx.heap.size wx w' := by
    intro wx hTx h0x
    have h := decode_any t q wx hts (by omega) h0x hTx
    have e1 : decS t.data.toList = x := by
      unfold decS; rw [htl, hDa, hDx]
      show strL x.data.toList = x
      unfold strL
      apply ByteArray.ext
      apply Array.toList_inj.1
      rfl
    have e2 : decE t.data.toList = 0 := by unfold decE; rw [htl, hDa]; rfl
    rw [e1, e2] at h
    exact h
  have hval : ∀ (i : Nat) (h : i < t.size), ∃ v : Nat, v < 64 ∧ val1 (t[i]'h).toNat = v + 1 := by
    intro i hi
    have hmem : t[i]'hi ∈ D := by
      rw [← htl]
      exact Array.mem_toList_iff.2 (Array.getElem_mem _)
    have := (List.all_eq_true.1 hDa) _ hmem
    simp only [decide_eq_true_eq] at this
    have hle := val1_le (t[i]'hi).toNat
    exact ⟨val1 (t[i]'hi).toNat - 1, by omega, by omega⟩
  -- the numbers
  obtain ⟨k0, hk⟩ : ∃ k : Nat, a2 % 8 = (k : Int) := ⟨(a2 % 8).toNat, by omega⟩
  have hk8 : k0 < 8 := by omega
  have hmod := fun w => mod_any a2 8 w (by decide) (by decide) h2lo h2hi
  have e8 : ((8 : Nat) : Int) = 8 := rfl
  rw [e8, hk] at hmod
  obtain ⟨k, hkk⟩ : ∃ k, k = k0 + 1 := ⟨_, rfl⟩
  have h1k : 1 + (k0 : Int) = (k : Int) := by omega
  have hk1 : 1 ≤ k := by omega
  have hk9 : k ≤ 8 := by omega
  obtain ⟨M, hM, hM2, hM1, hpow⟩ := back_pow k hk9
  obtain ⟨m, hm⟩ : ∃ m : Nat, a1 % (M : Int) = (m : Int) := ⟨(a1 % (M : Int)).toNat, by have := Int.emod_nonneg a1 (b := (M : Int)) (by omega); omega⟩
  have hmM : m < 64 ^ k := by rw [hM]; have := Int.emod_lt_of_pos a1 (b := (M : Int)) (by omega); omega
  have hmod2 := fun w => mod_any a1 M w hM1 (by omega) h1lo h1hi
  rw [hm] at hmod2
  have hnum := fun w => number_in m k w hk1 hk9 hmM
  obtain ⟨d, hd⟩ : ∃ d, d = strL (digsL m k) := ⟨_, rfl⟩
  rw [← hd] at hnum
  have hdl : d.data.toList = digsL m k := by rw [hd]; rfl
  have hds : d.size = k := by have : d.data.toList.length = d.size := by rw [Array.length_toList]; rfl
                              rw [hdl, digsL_length] at this; omega
  have hpar : ∀ wx : World, Tab wx → Calls Tryd.prog 13 #[.string d] wx fun e w' => e = .returned (.tuple #[.int .i64 m, .int .i64 0]) ∧ wx = w' := fun wx hTx =>
    parse_good d m wx (by omega) (by omega) hTx (by rw [hdl]; exact allD_digsL m k) (by rw [hdl]; exact numL_digsL k m hmM)
  have HENC := Lib.hid henc
  have HDEC := Lib.hid hdec
  have HVAL := Lib.hid hval
  have HMOD := Lib.hid hmod
  have HMOD2 := Lib.hid hmod2
  have HNUM := Lib.hid hnum
  have HPAR := Lib.hid hpar
  have HT := Lib.hid hT
  have hx' := hx.symm
  have hne : ((4 : Int) * (q : Int) != (q : Int) * 4) = false := by simp only [bne_eq_false_iff_eq]; omega
  clear henc hdec hval hmod hmod2 hnum hpar hT hx hxl hD hDl hDa hDx ht htl hk hk8 e8 hkk hM hm hmM hd hdl h1lo h1hi h2lo h2hi
  go_enter Tryd.func4, Tryd.ntmps4
  go_wp2_with (first
    | (go_at_call 9; refine (HENC.out _).mono ?_; rintro e w1 ⟨rfl, hb1⟩; have hT1 : Tab w1 := fun i hi => (hb1.cell (p := ⟨0, i, none⟩) (by show (0 : Nat) < _; omega)).trans (HT.out i hi); have HT1 := Lib.hid hT1; clear hT1)
    | (go_at_call 11; refine (HDEC.out _ HT1.out (Nat.le_trans h0 hb1.size)).mono ?_; rintro e w2 ⟨rfl, hb2⟩))
  have hB2 := hb1.trans (hb2.mono hb1.size)
  have hT2 : Tab w2 := fun i hi => (hB2.cell (p := ⟨0, i, none⟩) (by show (0 : Nat) < _; omega)).trans (HT.out i hi)
  have HT2 := Lib.hid hT2
  clear hT2 hb1 hb2
  go_loop [63] (fun i => ∃ j : Nat, j ≤ 4 * q ∧ i = .int .i64 j) (fun i => 4 * q - (intOf i).toNat)
  case atStart => exact ⟨0, Nat.zero_le _, rfl⟩
  case round =>
    obtain ⟨j, hj, rfl⟩ := hrel
    by_cases hlt : j < 4 * q
    · have hjt : j < t.size := by omega
      obtain ⟨v, hv64, hv⟩ := HVAL.out j hjt
      have HV := Lib.hid hv
      clear hv
      go_wp2_with (go_at_call 20; refine (value_dig _ v _ (UInt8.toNat_lt _) HV.out HT2.out).mono ?_; rintro e w3 ⟨rfl, rfl⟩)
      go_round
      case rel => exact ⟨j + 1, by omega, by go_num⟩
      case measure => simp [intOf]; omega
    · have : j = 4 * q := by omega
      subst this
      go_wp2_with (first
        | (go_at_call 14; first | ((with_reducible refine (HMOD.out _).mono ?_); rintro e w3 ⟨rfl, rfl⟩) | ((with_reducible refine (HMOD2.out _).mono ?_); rintro e w3 ⟨rfl, rfl⟩))
        | (go_at_call 16; refine (HNUM.out _).mono ?_; rintro e w3 ⟨rfl, hb3⟩; have hT3 : Tab w3 := (fun i hi => (hb3.cell (p := ⟨0, i, none⟩) (by have := hB2.size; show (0 : Nat) < _; omega)).trans (HT2.out i hi)); have HT3 := Lib.hid hT3; clear hT3)
        | (go_at_call 13; refine (HPAR.out _ HT3.out).mono ?_; rintro e w4 ⟨rfl, rfl⟩)
        | (go_at_call 7; refine (awake_any _).mono ?_; rintro e w5 ⟨rfl, hb5⟩))
      go_ret
      have H := hB2.trans (hb3.mono hB2.size)
      exact ⟨rfl, H.trans (hb5.mono H.size)⟩

theorem back_all (s : ByteArray) (a1 a2 : Int) (w : World) (hm : s.size ≤ maxLen) (h1 : -9223372036854775808 ≤ a1 ∧ a1 ≤ 9223372036854775807) (h2 : -9223372036854775808 ≤ a2 ∧ a2 ≤ 9223372036854775807) (hT : Tab w) (h0 : 1 ≤ w.heap.size) :
    Calls Tryd.prog 4 #[.string s, .int .i64 a1, .int .i64 a2] w fun e w' => e = .returned (.bool true) ∧ Below w.heap.size w w' := by
  by_cases hl : 600 < s.size
  · exact back_big s a1 a2 w hl hm
  · exact back_walk s a1 a2 w (by omega) h1.1 h1.2 h2.1 h2.2 hT h0

end Go.Proofs.YtgpilklgaipboaaDoor
