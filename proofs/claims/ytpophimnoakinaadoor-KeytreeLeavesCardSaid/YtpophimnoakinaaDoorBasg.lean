/- The contract of Decode of package base64. -/
import Derived.Test.YtpophimnoakinaaDoorBasf
namespace Go.Proofs.YtpophimnoakinaaDoor
open Go.ChangeShapes Go.WideShapes Go.ChangeAt Go.RowKit
set_option linter.unusedVariables false
set_option linter.unusedSimpArgs false


set_option maxRecDepth 100000 in
theorem decode_limit (s : ByteArray) (w : World) (h : 131072 < s.size) (hm : s.size ≤ maxLen) :
    Calls Tryd.prog 99 #[.string s] w fun e w' => e = .returned (.tuple #[.string ⟨#[]⟩, .int .i64 3]) ∧ w = w' := by
  unfold maxLen at hm
  go_enter Tryd.func99, Tryd.ntmps99
  go_wp2
  go_ret2
  exact ⟨rfl, rfl⟩

set_option maxRecDepth 100000 in
theorem decode_size (s : ByteArray) (w : World) (h : s.size ≤ 131072) (hz : s.size % 4 ≠ 0) :
    Calls Tryd.prog 99 #[.string s] w fun e w' => e = .returned (.tuple #[.string ⟨#[]⟩, .int .i64 8]) ∧ w = w' := by
  have hz' : ((s.size : Int) % 4 != 0) = true := by simp only [bne_iff_ne, ne_eq]; omega
  clear hz
  go_enter Tryd.func99, Tryd.ntmps99
  go_wp2
  go_ret2
  exact ⟨rfl, rfl⟩

/-- What Decode returns for a text of fours. -/
def decS (l : List UInt8) : ByteArray := if allD l = true then strL (decL l) else ⟨#[]⟩

def decE (l : List UInt8) : Int := if allD l = true then 0 else 4

set_option maxRecDepth 100000 in
theorem decode_any (s : ByteArray) (b : Nat) (w : World) (hb : s.size = 4 * b) (h : s.size ≤ 131072) (h0 : 4 < w.heap.size) (hT : Tab w) :
    Calls Tryd.prog 99 #[.string s] w fun e w' => e = .returned (.tuple #[.string (decS s.data.toList), .int .i64 (decE s.data.toList)]) ∧ Below w.heap.size w w' := by
  obtain ⟨i0, hi, hz0, hz1, hz2⟩ := info_parts Tryd.info5
  have hmod : ((s.size : Int) % 4 != 0) = false := by simp only [bne_eq_false_iff_eq]; omega
  have hdiv : (s.size : Int) / 4 = (b : Int) := by omega
  have hb' : b ≤ 32768 := by omega
  have HB := Lib.hid hb
  have HT := Lib.hid hT
  clear hb hT
  go_enter Tryd.func99, Tryd.ntmps99
  go_wp2_with (at_make; refine wpList_make_own _ rfl _ _ 35 rfl w.heap.size 5 i0 (.int .u8 0) 1 Tryd.underlying35 hi hz0 hz1 .i64 .i64 _ (b * 3) rfl rfl (by omega) (by rw [hz2]; omega) (by unfold maxLen; omega) (Nat.le_refl _) ?_; intro w1 hown hgrow)
  have hr0 := (Row.of_owns hown).1
  have hb0 := (Below.refl w.heap.size w).grown hgrow (Nat.le_refl _) (fun _ e => by cases e)
  clear hown hgrow
  go_loopw [5, 23] (fun v i wr => ∃ j : Nat, j ≤ b ∧ i = .int .i64 j ∧ v = .slice (some ⟨w.heap.size, 0, none⟩) (3 * j) (b * 3) ∧ Row wr w.heap.size 5 (b * 3) (bytesV (decL (s.data.toList.take (4 * j)))) ∧ Below w.heap.size w wr ∧ allD (s.data.toList.take (4 * j)) = true) (fun _ i _ => b - (intOf i).toNat)
  case atStart => exact ⟨0, Nat.zero_le _, rfl, rfl, by simpa [bytesV, decL] using hr0, hb0, rfl⟩
  case round =>
    clear hr0 hb0
    obtain ⟨j, hj, rfl, rfl, hr, hbel, hall⟩ := hrel
    have HA := Lib.hid hall
    clear hall
    by_cases hlt : j < b
    · have hs3 : 4 * (j + 1) ≤ s.size := by rw [HB.out]; omega
      have hTr : Tab wr := fun i hi => (hbel.cell (p := ⟨4, i, none⟩) h0).trans (HT.out i hi)
      have hesz : (s.extract (j * 4) ((j + 1) * 4)).size = 4 := by rw [ext_size s _ _ (by omega) (by omega)]; omega
      have hel : (s.extract (j * 4) ((j + 1) * 4)).data.toList = fourL s.data.toList j := by
        rw [ext_data]; unfold fourL; rw [Nat.mul_comm j 4, Nat.mul_comm (j + 1) 4]
      have hread := read_any (s.extract (j * 4) ((j + 1) * 4)) wr (by omega) hTr
      rw [hel] at hread
      have h4l : (fourL s.data.toList j).length ≤ 4 := by unfold fourL; simp; omega
      clear hesz hel
      by_cases hgood : allD (fourL s.data.toList j) = true
      · have hr4 : rnum (fourL s.data.toList j) = numL (fourL s.data.toList j) := by unfold rnum; rw [if_pos hgood]
        rw [hgood, hr4] at hread
        obtain ⟨N, hN⟩ : ∃ N, N = numL (fourL s.data.toList j) := ⟨_, rfl⟩
        rw [← hN] at hread
        have hNlt : N < 16777216 := by rw [hN]; exact numL_lt_of _ 4 _ h4l (by decide)
        have HR := Lib.hid hread
        have HN := Lib.hid hN
        have HG := Lib.hid hgood
        clear hread hN hgood hr4 h4l
        have hlen : (bytesV (decL (s.data.toList.take (4 * j)))).length = 3 * j := by
          rw [bytesV_length, decL_length j _ (by simp; have : s.data.size = s.size := rfl; omega)]
        have HL := Lib.hid hlen
        have hstep := decL_step j s.data.toList (by simp; have : s.data.size = s.size := rfl; omega)
        rw [← HN.out] at hstep
        have HS := Lib.hid hstep
        have hnews := Lib.hid (bytesV_byts N hNlt)
        clear hlen hstep
        go_wp2_with (first | (go_at_call 102; refine (HR.out).mono ?_; rintro e w2 ⟨rfl, rfl⟩) | (at_builtin; refine wpList_append_row _ rfl (.tmp 39) (.tmp 48) 35 rfl 5 i0 Tryd.underlying35 hi hz1 w.heap.size 5 (3 * j) (b * 3) _ rfl HL.out (hr.alloc _) ⟨wr.heap.size, 0, none⟩ 3 3 [.int .u8 ((N : Int) / 65536), .int .u8 ((N : Int) / 256 % 256), .int .u8 ((N : Int) % 256)] rfl rfl (cells_new _ _ _ _ rfl) (by intro u hu; simp at hu; rcases hu with rfl | rfl | rfl <;> rfl) (by omega) ?_))
        intro w2 hr2 hg2
        rw [← hnews.out, ← bytesV_append, ← HS.out] at hr2
        have hbel2 := gbelow (hbel.alloc hbel.size _) hg2 (by have := hbel.size; simp; omega) (Nat.le_refl _)
        clear hg2 hr hbel
        go_wp2
        go_roundw
        case rel => exact ⟨j + 1, by omega, by go_num, by rw [show 3 * (j + 1) = 3 * j + 3 by omega], hr2, hbel2, by rw [allD_four, HA.out, HG.out]; rfl⟩
        case measure => simp [intOf]; omega
      · have hbad : allD (fourL s.data.toList j) = false := by simpa using hgood
        have hr4 : rnum (fourL s.data.toList j) = 0 := by unfold rnum; rw [if_neg hgood]
        rw [hbad, hr4] at hread
        have hall : allD s.data.toList = false := allD_take_false _ (4 * (j + 1)) (by rw [allD_four, hbad]; simp)
        have e1 : decS s.data.toList = ⟨#[]⟩ := by unfold decS; rw [hall]; rfl
        have e2 : decE s.data.toList = 4 := by unfold decE; rw [hall]; rfl
        have HR := Lib.hid hread
        have E1 := Lib.hid e1
        have E2 := Lib.hid e2
        clear hread hgood hbad hr4 hall e1 e2 h4l
        go_wp2_with (go_at_call 102; refine (HR.out).mono ?_; rintro e w2 ⟨rfl, rfl⟩)
        go_ret2
        rw [E1.out, E2.out]
        exact ⟨rfl, hbel⟩
    · have : j = b := by omega
      subst this
      have hfull : s.data.toList.take (4 * j) = s.data.toList := by
        rw [← HB.out]; exact toList_take_size s
      have HA' := HA.out
      rw [hfull] at hr HA'
      have hl : (decL s.data.toList).length = 3 * j := decL_length j _ (by simp; exact HB.out)
      have hcv := conv_row (P := Tryd.prog) wr 35 9 5 w.heap.size 5 (3 * j) (j * 3) (decL s.data.toList) hl hr Tryd.underlying35 Tryd.underlying5 Tryd.underlying9
      have e1 : decS s.data.toList = strL (decL s.data.toList) := by unfold decS; rw [HA']; rfl
      have e2 : decE s.data.toList = 0 := by unfold decE; rw [HA']; rfl
      have E1 := Lib.hid e1
      have E2 := Lib.hid e2
      clear hfull hl HA' e1 e2
      go_wp2
      go_ret2
      rw [E1.out, E2.out]
      exact ⟨rfl, hbel⟩

/-- What Decode returns for any text. -/
def decFS (l : List UInt8) : ByteArray := if 131072 < l.length ∨ l.length % 4 ≠ 0 then ⟨#[]⟩ else decS l
def decFE (l : List UInt8) : Int := if 131072 < l.length then 3 else if l.length % 4 ≠ 0 then 8 else decE l
/-- What Parse returns for any text. -/
def parN (l : List UInt8) : Int := if l.length < 1 ∨ 8 < l.length then 0 else (rnum l : Int)
def parE (l : List UInt8) : Int := if l.length < 1 ∨ 8 < l.length then 8 else if allD l = true then 0 else 4
/-- What Number returns for any numbers. -/
def numS (n k : Int) : ByteArray := if k < 1 ∨ 8 < k ∨ n < 0 ∨ (64 : Int) ^ k.toNat ≤ n then ⟨#[]⟩ else strL (digsL n.toNat k.toNat)
def numE (n k : Int) : Int := if k < 1 ∨ 8 < k ∨ n < 0 ∨ (64 : Int) ^ k.toNat ≤ n then 2 else 0
/-- What Digit returns for any number. -/
def digF (n : Int) : Int := if n < 0 ∨ 64 ≤ n then 0 else ((dig n.toNat).toNat : Int)
def digE (n : Int) : Int := if n < 0 ∨ 64 ≤ n then 2 else 0

theorem len_is (s : ByteArray) : s.data.toList.length = s.size := by rw [Array.length_toList]; rfl

theorem decode_full (s : ByteArray) (w : World) (hm : s.size ≤ maxLen) (h0 : 4 < w.heap.size) (hT : Tab w) :
    Calls Tryd.prog 99 #[.string s] w fun e w' => e = .returned (.tuple #[.string (decFS s.data.toList), .int .i64 (decFE s.data.toList)]) ∧ Below w.heap.size w w' := by
  unfold decFS decFE
  rw [len_is]
  by_cases h : 131072 < s.size
  · rw [if_pos (.inl h), if_pos h]
    exact (decode_limit s w h hm).mono fun e w' ⟨he, hw⟩ => ⟨he, hw ▸ Below.refl _ _⟩
  · by_cases h3 : s.size % 4 ≠ 0
    · rw [if_pos (.inr h3), if_neg h, if_pos h3]
      exact (decode_size s w (by omega) h3).mono fun e w' ⟨he, hw⟩ => ⟨he, hw ▸ Below.refl _ _⟩
    · rw [if_neg (by omega), if_neg h, if_neg h3]
      exact decode_any s (s.size / 4) w (by omega) (by omega) h0 hT




end Go.Proofs.YtpophimnoakinaaDoor
