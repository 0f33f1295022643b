/- The contract of the document's own Decode: it returns just what the program's Decode returns. -/
import Derived.Test.YtpophimnoakinaaDoorRefb
namespace Go.Proofs.YtpophimnoakinaaDoor
open Go.ChangeShapes Go.WideShapes Go.ChangeAt Go.RowKit
set_option linter.unusedVariables false
set_option linter.unusedSimpArgs false

theorem fourL_length (l : List UInt8) (i : Nat) (h : 4 * (i + 1) ≤ l.length) : (fourL l i).length = 4 := by unfold fourL; simp; omega
theorem fourL_get (s : ByteArray) (i k : Nat) (hk : k < 4) (h : 4 * (i + 1) ≤ s.size) (h' : 4 * i + k < s.size) : (fourL s.data.toList i)[k]? = some (s[4 * i + k]'h') := by
  unfold fourL
  rw [List.getElem?_drop, List.getElem?_take, if_pos (by omega)]
  have h1 : 4 * i + k < s.data.toList.length := by rw [Array.length_toList]; exact h'
  rw [List.getElem?_eq_getElem h1]; rfl
theorem take_of_get (l : List UInt8) (k : Nat) (c : UInt8) (h : l[k]? = some c) : l.take (k + 1) = l.take k ++ [c] := by
  obtain ⟨hl, e⟩ := List.getElem?_eq_some_iff.1 h
  rw [List.take_succ_eq_append_getElem hl, e]
theorem allD_false_mem (l : List UInt8) (k : Nat) (c : UInt8) (h : l[k]? = some c) (hz : val1 c.toNat = 0) : allD l = false := by
  rw [← List.take_append_drop (k + 1) l, take_of_get l k c h]
  simp [allD, hz]

set_option maxRecDepth 100000 in
theorem rdecode_limit (s : ByteArray) (w : World) (h : 131072 < s.size) (hm : s.size ≤ maxLen) :
    Calls Tryd.prog 86 #[.string s] w fun e w' => e = .returned (.tuple #[.string ⟨#[]⟩, .int .i64 3]) ∧ w = w' := by
  unfold maxLen at hm
  go_enter Tryd.func86, Tryd.ntmps86
  go_wp2
  go_ret2
  exact ⟨rfl, rfl⟩

set_option maxRecDepth 100000 in
theorem rdecode_size (s : ByteArray) (w : World) (h : s.size ≤ 131072) (hz : s.size % 4 ≠ 0) :
    Calls Tryd.prog 86 #[.string s] w fun e w' => e = .returned (.tuple #[.string ⟨#[]⟩, .int .i64 8]) ∧ w = w' := by
  have hz' : ((s.size : Int) % 4 != 0) = true := by simp only [bne_iff_ne, ne_eq]; omega
  clear hz
  go_enter Tryd.func86, Tryd.ntmps86
  go_wp2
  go_ret2
  exact ⟨rfl, rfl⟩

set_option maxRecDepth 100000 in
set_option maxHeartbeats 400000 in
theorem rdecode_any (s : ByteArray) (b : Nat) (w : World) (hb : s.size = 4 * b) (h : s.size ≤ 131072) :
    Calls Tryd.prog 86 #[.string s] w fun e w' => e = .returned (.tuple #[.string (decS s.data.toList), .int .i64 (decE s.data.toList)]) ∧ Below w.heap.size w w' := by
  obtain ⟨i0, hi, hz0, hz1, hz2⟩ := info_parts Tryd.info5
  have hmod : ((s.size : Int) % 4 != 0) = false := by simp only [bne_eq_false_iff_eq]; omega
  have hb' : b ≤ 32768 := by omega
  have HB := Lib.hid hb
  clear hb
  go_enter Tryd.func86, Tryd.ntmps86
  go_wp2
  go_loopw [4, 5] (fun v i wr => ∃ j p : Nat, p = 4 * j ∧ j ≤ b ∧ i = .int .i64 p ∧ wr.ownsRow w.heap.size 5 1 v (3 * j) (bytesV (decL (s.data.toList.take p))) ∧ Below w.heap.size w wr ∧ allD (s.data.toList.take p) = true) (fun _ i _ => s.size - (intOf i).toNat)
  case atStart => exact ⟨0, 0, rfl, Nat.zero_le _, rfl, World.ownsRow_nil _ _ _ _, Below.refl _ _, rfl⟩
  case round =>
    obtain ⟨j, p, hp, hj, rfl, hown, hbel, hall⟩ := hrel
    have HP := Lib.hid hp
    have HA := Lib.hid hall
    clear hall
    by_cases hlt : j < b
    · have hs3 : p + 4 ≤ s.size := by rw [HB.out]; omega
      clear hp
      have hdp : decide (p < s.size) = true := by simp; omega
      obtain ⟨wo, hwo⟩ : ∃ wo : World, wo = wr := ⟨_, rfl⟩
      subst hwo
      go_wp2
      go_loop [6, 25] (fun n i => ∃ k : Nat, k ≤ 4 ∧ i = .int .i64 k ∧ n = .int .i64 (numL ((fourL s.data.toList j).take k)) ∧ allD ((fourL s.data.toList j).take k) = true) (fun _ i => 4 - (intOf i).toNat)
      case atStart => exact ⟨0, Nat.zero_le _, rfl, rfl, rfl⟩
      case round =>
        obtain ⟨k, hk, rfl, rfl, hallk⟩ := hrel
        have HAK := Lib.hid hallk
        clear hallk
        by_cases hlk : k < 4
        · have hpk : p + k < s.size := by omega
          obtain ⟨c, hc⟩ : ∃ c, c = s[p + k]'hpk := ⟨_, rfl⟩
          have hcr : ∀ h, s[p + k]'h = c := fun _ => hc.symm
          have hget : (fourL s.data.toList j)[k]? = some c := by
            have e : 4 * j + k = p + k := by rw [HP.out]
            have := fourL_get s j k hlk (by have := HP.out; omega) (by omega)
            rw [this, hc]
            simp only [e]
          obtain ⟨x, hx⟩ : ∃ x, x = numL ((fourL s.data.toList j).take k) := ⟨_, rfl⟩
          have hxl : x < 64 ^ 4 := by rw [hx]; exact numL_lt_of _ 4 _ (by simp; omega) (Nat.le_refl _)
          rw [← hx]
          have HX := Lib.hid hx
          have HG := Lib.hid hget
          clear hx hget hc
          by_cases hz : val1 c.toNat = 0
          · have hbad : allD (fourL s.data.toList j) = false := allD_false_mem _ k c HG.out hz
            have hall : allD s.data.toList = false := allD_take_false _ (4 * (j + 1)) (by rw [allD_four, hbad]; simp)
            have e1 : decS s.data.toList = ⟨#[]⟩ := by unfold decS; rw [hall]; rfl
            have e2 : decE s.data.toList = 4 := by unfold decE; rw [hall]; rfl
            have hv := rvalue_not c.toNat wo (UInt8.toNat_lt _) hz
            have HV := Lib.hid hv
            have E1 := Lib.hid e1
            have E2 := Lib.hid e2
            clear hz hbad hall e1 e2 hv
            go_wp2_with (go_at_call 96; refine (HV.out).mono ?_; rintro e w' ⟨rfl, rfl⟩)
            go_ret2
            rw [E1.out, E2.out]
            exact ⟨rfl, hbel⟩
          · obtain ⟨v, hv⟩ : ∃ v, val1 c.toNat = v + 1 := ⟨val1 c.toNat - 1, by omega⟩
            have hv64 : v < 64 := by have := val1_le c.toNat; omega
            have hor := or6 x v (by omega) hv64
            have hrv := rvalue_dig c.toNat v wo (UInt8.toNat_lt _) hv
            have HRV := Lib.hid hrv
            have HV := Lib.hid hv
            have hnz := Lib.hid hz
            clear hv hz hrv
            go_wp2_with (go_at_call 96; refine (HRV.out).mono ?_; rintro e w' ⟨rfl, rfl⟩)
            go_round
            case rel =>
              refine ⟨k + 1, by omega, by go_num, ?_, ?_⟩
              · rw [take_of_get _ k c HG.out, numL_snoc, HV.out, ← HX.out]; simp
              · rw [take_of_get _ k c HG.out, allD_snoc, HAK.out]; simp [hnz.out]
            case measure => simp [intOf]; try omega
        · have : k = 4 := by omega
          subst this
          have h4l : (fourL s.data.toList j).length = 4 := fourL_length _ _ (by rw [len_is]; have := HP.out; omega)
          have HAK' := HAK.out
          rw [List.take_of_length_le (by omega)] at HAK' ⊢
          obtain ⟨N, hN⟩ : ∃ N, N = numL (fourL s.data.toList j) := ⟨_, rfl⟩
          have hNlt : N < 16777216 := by rw [hN]; exact numL_lt_of _ 4 _ (by omega) (by decide)
          rw [← hN]
          have hlen : (bytesV (decL (s.data.toList.take p))).length = 3 * j := by
            rw [bytesV_length, decL_length j _ (by rw [List.length_take, len_is]; have := HP.out; omega)]
          have HL := Lib.hid hlen
          have hstep := decL_step j s.data.toList (by rw [len_is]; have := HP.out; omega)
          rw [← hN] at hstep
          have HS := Lib.hid hstep
          have HG := Lib.hid HAK'
          have hnews := Lib.hid (bytesV_byts N hNlt)
          clear hlen hstep hN h4l HAK HAK'
          go_wp2_with (at_builtin; refine wpList_append_own _ rfl (.tmp 44) (.tmp 53) 35 rfl w.heap.size 5 i0 (.int .u8 0) 1 1 Tryd.underlying35 hi hz0 hz1 hz2 rfl (by decide) _ (3 * j) _ rfl (hown.alloc _) ⟨wo.heap.size, 0, none⟩ 3 3 [.int .u8 ((N : Int) / 65536), .int .u8 ((N : Int) / 256 % 256), .int .u8 ((N : Int) % 256)] rfl rfl (cells_new _ _ _ _ rfl) (by intro u hu; simp at hu; rcases hu with rfl | rfl | rfl <;> rfl) (by unfold maxLen; omega) (by omega) (by have := hbel.size; simp; omega) ?_)
          intro v' w2 hown2 hgrow _
          have hbel2 := obelow (hbel.alloc hbel.size _) (hown.alloc _) hgrow (by have := hbel.size; simp; omega)
          have hown3 : w2.ownsRow w.heap.size 5 1 v' (3 * (j + 1)) (bytesV (decL (s.data.toList.take (4 * (j + 1))))) := by
            rw [HS.out, bytesV_append, hnews.out, ← HP.out]
            exact hown2
          clear hown2 hgrow hown hbel
          go_wp2
          go_roundw
          case rel => exact ⟨j + 1, p + 4, by rw [HP.out]; omega, by omega, by go_num, by rw [show p + 4 = 4 * (j + 1) by rw [HP.out]; omega]; exact hown3, hbel2, by rw [show p + 4 = 4 * (j + 1) by rw [HP.out]; omega, allD_four, ← HP.out, HA.out, HG.out]; rfl⟩
          case measure => simp [intOf]; omega
    · have : j = b := by omega
      subst this
      have hfull : s.data.toList.take p = s.data.toList := by
        rw [HP.out, ← HB.out]; exact toList_take_size s
      have hps : ¬ p < s.size := by rw [HP.out, HB.out]; omega
      have HA' := HA.out
      rw [hfull] at hown HA'
      have hcv := conv_owns (P := Tryd.prog) wr 35 9 5 w.heap.size (3 * j) _ (decL s.data.toList) hown Tryd.underlying35 Tryd.underlying5 Tryd.underlying9
      have e1 : decS s.data.toList = strL (decL s.data.toList) := by unfold decS; rw [HA']; rfl
      have e2 : decE s.data.toList = 0 := by unfold decE; rw [HA']; rfl
      have E1 := Lib.hid e1
      have E2 := Lib.hid e2
      clear hfull hp HA' e1 e2
      go_wp2
      go_ret2
      rw [E1.out, E2.out]
      exact ⟨rfl, hbel⟩

theorem rdecode_full (s : ByteArray) (w : World) (hm : s.size ≤ maxLen) :
    Calls Tryd.prog 86 #[.string s] w fun e w' => e = .returned (.tuple #[.string (decFS s.data.toList), .int .i64 (decFE s.data.toList)]) ∧ Below w.heap.size w w' := by
  unfold decFS decFE
  rw [len_is]
  by_cases h : 131072 < s.size
  · rw [if_pos (.inl h), if_pos h]
    exact (rdecode_limit s w h hm).mono fun e w' ⟨he, hw⟩ => ⟨he, hw ▸ Below.refl _ _⟩
  · by_cases h3 : s.size % 4 ≠ 0
    · rw [if_pos (.inr h3), if_neg h, if_pos h3]
      exact (rdecode_size s w (by omega) h3).mono fun e w' ⟨he, hw⟩ => ⟨he, hw ▸ Below.refl _ _⟩
    · rw [if_neg (by omega), if_neg h, if_neg h3]
      exact rdecode_any s (s.size / 4) w (by omega) (by omega)

end Go.Proofs.YtpophimnoakinaaDoor
