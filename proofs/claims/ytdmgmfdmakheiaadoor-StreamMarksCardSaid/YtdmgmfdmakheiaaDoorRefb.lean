/- Contracts of the document's own Value, Digit, Parse, Number and Decode: each returns just what the program's function returns. -/
import Derived.Test.YtdmgmfdmakheiaaDoorBasg
import Derived.Test.YtdmgmfdmakheiaaDoorOrder
namespace Go.Proofs.YtdmgmfdmakheiaaDoor
open Go.ChangeShapes Go.WideShapes Go.ChangeAt Go.RowKit
set_option linter.unusedVariables false
set_option linter.unusedSimpArgs false

/-- None of the first k digits is the character c. -/
def NotYet (k c : Nat) : Prop := ∀ i, i < k → (dig i).toNat ≠ c

set_option maxRecDepth 100000 in
theorem rvalue_any (c : Nat) (w : World) (hc : c < 256) :
    Calls Tryd.prog 72 #[.int .u8 c] w fun e w' => e = .returned (.tuple #[.int .i64 (vnum c), .bool (vis c)]) ∧ w = w' := by
  go_enter Tryd.func72, Tryd.ntmps72
  go_wp2
  go_loop [5] (fun i => ∃ k : Nat, k ≤ 64 ∧ i = .int .i64 k ∧ NotYet k c) (fun i => 64 - (intOf i).toNat)
  case atStart => exact ⟨0, Nat.zero_le _, rfl, fun i hi => absurd hi (Nat.not_lt_zero _)⟩
  case round =>
    obtain ⟨k, hk, rfl, hny⟩ := hrel
    have HNY := Lib.hid hny
    clear hny
    by_cases hlt : k < 64
    · have ha := alph_get k
      by_cases hd : (dig k).toNat = c
      · have hv : val1 c = k + 1 := by rw [← hd]; exact val1_dig k hlt
        have e1 : vnum c = (k : Int) := by unfold vnum; rw [hv]; rfl
        have e2 : vis c = true := by unfold vis; rw [hv]; simp
        have E1 := Lib.hid e1
        have E2 := Lib.hid e2
        have hdd : (((dig k).toNat : Int) == (c : Int)) = true := by simp; omega
        clear hv e1 e2 hd
        go_wp2
        go_ret2
        rw [E1.out, E2.out]
        exact ⟨rfl, rfl⟩
      · have hdd : (((dig k).toNat : Int) == (c : Int)) = false := by simp; omega
        have HD := Lib.hid hd
        clear hd
        go_wp2
        go_round
        case rel =>
          refine ⟨k + 1, by omega, by go_num, fun i hi => ?_⟩
          by_cases hik : i = k
          · rw [hik]; exact HD.out
          · exact HNY.out i (by omega)
        case measure => simp [intOf]; omega
    · have hv : val1 c = 0 := by
        by_cases h : val1 c = 0
        · exact h
        · have h1 := val1_le c
          exact absurd (dig_val1 c h) (HNY.out (val1 c - 1) (by omega))
      have e1 : vnum c = 0 := by unfold vnum; rw [hv]; rfl
      have e2 : vis c = false := by unfold vis; rw [hv]; rfl
      have E1 := Lib.hid e1
      have E2 := Lib.hid e2
      clear hv e1 e2
      go_wp2
      go_ret2
      rw [E1.out, E2.out]
      exact ⟨rfl, rfl⟩

theorem rvalue_dig (c : Nat) (v : Nat) (w : World) (hc : c < 256) (hv : val1 c = v + 1) :
    Calls Tryd.prog 72 #[.int .u8 c] w fun e w' => e = .returned (.tuple #[.int .i64 v, .bool true]) ∧ w = w' :=
  (rvalue_any c w hc).mono fun e w' ⟨he, hw⟩ => ⟨by rw [he]; unfold vnum vis; rw [hv]; simp, hw⟩
theorem rvalue_not (c : Nat) (w : World) (hc : c < 256) (hv : val1 c = 0) :
    Calls Tryd.prog 72 #[.int .u8 c] w fun e w' => e = .returned (.tuple #[.int .i64 0, .bool false]) ∧ w = w' :=
  (rvalue_any c w hc).mono fun e w' ⟨he, hw⟩ => ⟨by rw [he]; unfold vnum vis; rw [hv]; simp, hw⟩


set_option maxRecDepth 100000 in
theorem rparse_size (s : ByteArray) (w : World) (h : s.size < 1 ∨ 8 < s.size) (hm : s.size ≤ maxLen) :
    Calls Tryd.prog 64 #[.string s] w fun e w' => e = .returned (.tuple #[.int .i64 0, .int .i64 8]) ∧ w = w' := by
  unfold maxLen at hm
  rcases h with h | h
  · go_enter Tryd.func64, Tryd.ntmps64
    go_wp2
    go_ret2
    exact ⟨rfl, rfl⟩
  · have h1 : ¬ s.size < 1 := by omega
    go_enter Tryd.func64, Tryd.ntmps64
    go_wp2
    go_ret2
    exact ⟨rfl, rfl⟩

set_option maxRecDepth 100000 in
theorem rparse_walk (s : ByteArray) (w : World) (h1 : 1 ≤ s.size) (h8 : s.size ≤ 8) :
    Calls Tryd.prog 64 #[.string s] w fun e w' => e = .returned (.tuple #[.int .i64 (parN s.data.toList), .int .i64 (parE s.data.toList)]) ∧ w = w' := by
  have hN : parN s.data.toList = (rnum s.data.toList : Int) := by unfold parN; rw [len_is, if_neg (by omega)]
  have hE : parE s.data.toList = if allD s.data.toList = true then 0 else 4 := by unfold parE; rw [len_is, if_neg (by omega)]
  have PN := Lib.hid hN
  have PE := Lib.hid hE
  clear hN hE
  go_enter Tryd.func64, Tryd.ntmps64
  go_wp2
  go_loop [4, 18] (fun n i => ∃ k : Nat, k ≤ s.size ∧ i = .int .i64 k ∧ n = .int .i64 (numL (s.data.toList.take k)) ∧ allD (s.data.toList.take k) = true) (fun _ i => s.size - (intOf i).toNat)
  case atStart => exact ⟨0, Nat.zero_le _, rfl, rfl, rfl⟩
  case round =>
    obtain ⟨k, hk, rfl, rfl, hall⟩ := hrel
    have HA := Lib.hid hall
    clear hall
    by_cases hlt : k < s.size
    · obtain ⟨x, hx⟩ : ∃ x, x = numL (s.data.toList.take k) := ⟨_, rfl⟩
      have hxl : x < 64 ^ 7 := by rw [hx]; exact numL_lt_of _ 7 _ (by simp; omega) (Nat.le_refl _)
      rw [← hx]
      have HX := Lib.hid hx
      clear hx
      by_cases hz : val1 s[k].toNat = 0
      · have e1 : allD s.data.toList = false := allD_false_of s k hlt hz
        have e2 : rnum s.data.toList = 0 := by unfold rnum; rw [e1]; rfl
        have E1 := Lib.hid e1
        have E2 := Lib.hid e2
        have HZ := Lib.hid hz
        clear e1 e2 hz
        go_wp2_with (go_at_call 72; refine (rvalue_not _ _ (UInt8.toNat_lt _) HZ.out).mono ?_; rintro e w' ⟨rfl, rfl⟩)
        go_ret2
        rw [PN.out, PE.out, E1.out, E2.out]
        exact ⟨rfl, rfl⟩
      · obtain ⟨v, hv⟩ : ∃ v, val1 s[k].toNat = v + 1 := ⟨val1 s[k].toNat - 1, by omega⟩
        have hv64 : v < 64 := by have := val1_le s[k].toNat; omega
        have hor := or6 x v (by omega) hv64
        have HV := Lib.hid hv
        have hnz := Lib.hid hz
        clear hv hz
        go_wp2_with (go_at_call 72; refine (rvalue_dig _ _ _ (UInt8.toNat_lt _) HV.out).mono ?_; rintro e w' ⟨rfl, rfl⟩)
        go_round
        case rel =>
          refine ⟨k + 1, by omega, by go_num, ?_, ?_⟩
          · rw [take_snoc s k hlt, numL_snoc, HV.out, ← HX.out]; simp
          · rw [take_snoc s k hlt, allD_snoc, HA.out]; simp [hnz.out]
        case measure => simp [intOf]; omega
    · have : k = s.size := by omega
      subst this
      go_wp2
      go_ret2
      have HA' := HA.out
      rw [toList_take_size] at HA' ⊢
      rw [PN.out, PE.out]
      unfold rnum
      rw [HA']
      exact ⟨rfl, rfl⟩

theorem rparse_full (s : ByteArray) (w : World) (hm : s.size ≤ maxLen) :
    Calls Tryd.prog 64 #[.string s] w fun e w' => e = .returned (.tuple #[.int .i64 (parN s.data.toList), .int .i64 (parE s.data.toList)]) ∧ w = w' := by
  by_cases h : s.size < 1 ∨ 8 < s.size
  · unfold parN parE
    rw [len_is, if_pos h, if_pos h]
    exact rparse_size s w h hm
  · exact rparse_walk s w (by omega) (by omega)

set_option maxRecDepth 100000 in
theorem rnumber_digits (n k : Int) (w : World) (h : k < 1 ∨ 8 < k) :
    Calls Tryd.prog 48 #[.int .i64 n, .int .i64 k] w fun e w' => e = .returned (.tuple #[.string ⟨#[]⟩, .int .i64 2]) ∧ w = w' := by
  rcases h with h | h
  · go_enter Tryd.func48, Tryd.ntmps48
    go_wp2
    go_ret2
    exact ⟨rfl, rfl⟩
  · have h' : ¬ k < 1 := by omega
    go_enter Tryd.func48, Tryd.ntmps48
    go_wp2
    go_ret2
    exact ⟨rfl, rfl⟩

set_option maxRecDepth 100000 in
theorem rnumber_neg (n : Int) (k : Nat) (w : World) (h1 : 1 ≤ k) (h8 : k ≤ 8) (hn : n < 0) :
    Calls Tryd.prog 48 #[.int .i64 n, .int .i64 k] w fun e w' => e = .returned (.tuple #[.string ⟨#[]⟩, .int .i64 2]) ∧ w = w' := by
  go_enter Tryd.func48, Tryd.ntmps48
  go_wp2
  go_ret2
  exact ⟨rfl, rfl⟩

/-- 64 to the power of k, and what stands of it in the walk. -/
theorem num_pow (k : Nat) (h9 : k ≤ 8) : ∃ M : Nat, 64 ^ k = M ∧ M ≤ 281474976710656 ∧ 1 ≤ M ∧ ∀ q : Nat, q = k → wrap64 ((2 : Int) ^ (6 * q)) = (M : Int) := by
  have e : (64 : Nat) ^ k = 2 ^ (6 * k) := by rw [show (64 : Nat) = 2 ^ 6 by decide, ← Nat.pow_mul]
  obtain ⟨M, hM⟩ : ∃ M, 64 ^ k = M := ⟨_, rfl⟩
  have hM1 : 0 < M := by rw [← hM, e]; exact Nat.two_pow_pos _
  have hM2 : M ≤ 281474976710656 := by rw [← hM]; exact Nat.pow_le_pow_right (n := 64) (by decide) h9
  have e2 : ((2 : Int) ^ (6 * k)) = (M : Int) := by rw [← hM, e]; simp
  refine ⟨M, hM, hM2, hM1, ?_⟩
  rintro q rfl
  rw [e2]
  clear hM e e2
  exact IntWalk.wrap64_in _ ⟨by omega, by omega⟩

set_option maxRecDepth 100000 in
theorem rnumber_big (n k : Nat) (w : World) (h1 : 1 ≤ k) (h8 : k ≤ 8) (hn : 64 ^ k ≤ n) (hm : n ≤ maxLen) :
    Calls Tryd.prog 48 #[.int .i64 n, .int .i64 k] w fun e w' => e = .returned (.tuple #[.string ⟨#[]⟩, .int .i64 2]) ∧ w = w' := by
  unfold maxLen at hm
  obtain ⟨M, hM, hM2, hM1, hpow⟩ := num_pow k h8
  rw [hM] at hn
  clear hM
  go_enter Tryd.func48, Tryd.ntmps48
  go_wp2
  go_ret2
  exact ⟨rfl, rfl⟩

set_option maxRecDepth 100000 in
theorem rnumber_in (n k : Nat) (w : World) (h1 : 1 ≤ k) (h8 : k ≤ 8) (hn : n < 64 ^ k) :
    Calls Tryd.prog 48 #[.int .i64 n, .int .i64 k] w fun e w' => e = .returned (.tuple #[.string (strL (digsL n k)), .int .i64 0]) ∧ Below w.heap.size w w' := by
  obtain ⟨i0, hi, hz0, hz1, hz2⟩ := info_parts Tryd.info5
  obtain ⟨M, hM, hM2, hM1, hpow⟩ := num_pow k h8
  rw [hM] at hn
  clear hM
  have hdec : decide (M ≤ n) = false := by simp; omega
  go_enter Tryd.func48, Tryd.ntmps48
  go_wp2
  go_loopw [6, 7] (fun v i wr => ∃ j : Nat, j ≤ k ∧ i = .int .i64 ((k : Int) - 1 - (j : Int)) ∧ wr.ownsRow w.heap.size 5 1 v j (bytesV ((digsL n k).take j)) ∧ Below w.heap.size w wr) (fun _ i _ => (intOf i + 1).toNat)
  case atStart => exact ⟨0, Nat.zero_le _, by simp, World.ownsRow_nil _ _ _ _, Below.refl _ _⟩
  case round =>
    obtain ⟨j, hj, rfl, hown, hbel⟩ := hrel
    by_cases hlt : j < k
    · obtain ⟨p, hp⟩ : ∃ p : Nat, p = k - 1 - j := ⟨_, rfl⟩
      have hpi : (k : Int) - 1 - (j : Int) = (p : Int) := by omega
      have hp7 : p ≤ 7 := by omega
      rw [hpi]
      obtain ⟨m, hm⟩ : ∃ m, m = n / 2 ^ (6 * p) % 64 := ⟨_, rfl⟩
      have hb : bits BinOp.and IntKind.i64 (↑n / 2 ^ (6 * p)) 63 = (m : Int) := by rw [i64_and63, hm]; simp
      have hm64 : m < 64 := by rw [hm]; exact Nat.mod_lt _ (by decide)
      have hd : digsL n k = digsL n k := rfl
      have htk : (digsL n k).take (j + 1) = (digsL n k).take j ++ [dig m] := by rw [digsL_take n k j hlt, hm, hp]
      have HT := Lib.hid htk
      have HP := Lib.hid hpi
      clear hm hp htk hd hpow hpi
      have ha := alph_get m
      go_wp2_with (at_builtin; refine wpList_append_own _ rfl (.tmp 32) (.tmp 40) 49 rfl w.heap.size 5 i0 (.int .u8 0) 1 1 Tryd.underlying49 hi hz0 hz1 hz2 rfl (by decide) _ j _ rfl (hown.alloc _) ⟨wr.heap.size, 0, none⟩ 1 1 [.int .u8 (dig m).toNat] rfl rfl (cell_one_new _ _ _) (by intro u hu; simp at hu; subst hu; rfl) (by unfold maxLen; omega) (by omega) (by have := hbel.size; simp; omega) ?_)
      intro v' w2 hown2 hgrow _
      have hbel2 := obelow (hbel.alloc hbel.size _) (hown.alloc _) hgrow (by have := hbel.size; simp; omega)
      have hown3 : w2.ownsRow w.heap.size 5 1 v' (j + 1) (bytesV ((digsL n k).take (j + 1))) := by
        rw [HT.out, bytesV_append]
        exact hown2
      clear hown2 hgrow hown hbel ha hb
      go_wp2
      go_roundw
      case rel => exact ⟨j + 1, by omega, by have := HP.out; congr 1; omega, hown3, hbel2⟩
      case measure => have := HP.out; simp [intOf]; try omega
    · have : j = k := by omega
      subst this
      have hneg : (j : Int) - 1 - (j : Int) = -1 := by omega
      rw [hneg]
      rw [List.take_of_length_le (by simp [digsL_length])] at hown
      have hcv := conv_owns (P := Tryd.prog) wr 49 9 5 w.heap.size j _ (digsL n j) hown Tryd.underlying49 Tryd.underlying5 Tryd.underlying9
      clear hpow hneg
      go_wp2
      go_ret2
      exact ⟨rfl, hbel⟩

theorem rnumber_full (n k : Int) (w : World) (hm : n ≤ 9223372036854775807) :
    Calls Tryd.prog 48 #[.int .i64 n, .int .i64 k] w fun e w' => e = .returned (.tuple #[.string (numS n k), .int .i64 (numE n k)]) ∧ Below w.heap.size w w' := by
  unfold numS numE
  by_cases h : k < 1 ∨ 8 < k
  · rw [if_pos (by omega), if_pos (by omega)]
    exact (rnumber_digits n k w h).mono fun e w' ⟨he, hw⟩ => ⟨he, hw ▸ Below.refl _ _⟩
  · obtain ⟨q, rfl⟩ := Int.eq_ofNat_of_zero_le (show 0 ≤ k by omega)
    by_cases hn : n < 0
    · rw [if_pos (.inr (.inr (.inl hn))), if_pos (.inr (.inr (.inl hn)))]
      exact (rnumber_neg n q w (by omega) (by omega) hn).mono fun e w' ⟨he, hw⟩ => ⟨he, hw ▸ Below.refl _ _⟩
    · obtain ⟨m, rfl⟩ := Int.eq_ofNat_of_zero_le (show 0 ≤ n by omega)
      have ep : ((64 : Int) ^ ((q : Int)).toNat) = ((64 ^ q : Nat) : Int) := by simp
      rw [ep]
      by_cases hb : 64 ^ q ≤ m
      · have hb' : ((64 ^ q : Nat) : Int) ≤ (m : Int) := Int.ofNat_le.2 hb
        rw [if_pos (.inr (.inr (.inr hb'))), if_pos (.inr (.inr (.inr hb')))]
        exact (rnumber_big m q w (by omega) (by omega) hb (by unfold maxLen; omega)).mono fun e w' ⟨he, hw⟩ => ⟨he, hw ▸ Below.refl _ _⟩
      · have hb' : ¬ ((64 ^ q : Nat) : Int) ≤ (m : Int) := fun h => hb (Int.ofNat_le.1 h)
        have hno : ¬ ((q : Int) < 1 ∨ 8 < (q : Int) ∨ (m : Int) < 0 ∨ ((64 ^ q : Nat) : Int) ≤ (m : Int)) := by
          rintro (h1 | h1 | h1 | h1)
          · exact h (.inl h1)
          · exact h (.inr h1)
          · exact hn h1
          · exact hb' h1
        rw [if_neg hno, if_neg hno]
        exact rnumber_in m q w (by omega) (by omega) (Nat.lt_of_not_le hb)

end Go.Proofs.YtdmgmfdmakheiaaDoor
