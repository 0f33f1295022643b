/- Contracts of Encode, Decode, Number and Parse of package base64. -/
import Derived.Test.YtpophimnoakinaaDoorBase
namespace Go.Proofs.YtpophimnoakinaaDoor
open Go.ChangeShapes Go.WideShapes Go.ChangeAt Go.RowKit
set_option linter.unusedVariables false
set_option linter.unusedSimpArgs false

/-- A list of bytes as a string. -/
def strL (l : List UInt8) : ByteArray := ⟨l.toArray⟩








set_option maxRecDepth 100000 in
theorem encode_limit (s : ByteArray) (w : World) (h : 65536 < s.size) (hm : s.size ≤ maxLen) :
    Calls Tryd.prog 76 #[.string s] w fun e w' => e = .returned (.tuple #[.string ⟨#[]⟩, .int .i64 3]) ∧ w = w' := by
  unfold maxLen at hm
  go_enter Tryd.func76, Tryd.ntmps76
  go_wp2
  go_ret2
  exact ⟨rfl, rfl⟩

set_option maxRecDepth 100000 in
theorem encode_size (s : ByteArray) (w : World) (h : s.size ≤ 65536) (hz : s.size % 3 ≠ 0) :
    Calls Tryd.prog 76 #[.string s] w fun e w' => e = .returned (.tuple #[.string ⟨#[]⟩, .int .i64 8]) ∧ w = w' := by
  have hz' : ((s.size : Int) % 3 != 0) = true := by simp only [bne_iff_ne, ne_eq]; omega
  clear hz
  go_enter Tryd.func76, Tryd.ntmps76
  go_wp2
  go_ret2
  exact ⟨rfl, rfl⟩

theorem append_four (g T k cap : Nat) (n : Nat) (xs : List Value) (w : World) (hk : xs.length = k) (hrow : Row w g T cap xs) (hfit : k + 4 ≤ cap) (hcap : cap ≤ maxLen) (hn : n < 2 ^ 62) :
    Calls Tryd.prog 91 #[.slice (some ⟨g, 0, none⟩) k cap, .int .i64 n, .int .i64 4] w fun e w' => e = .returned (.slice (some ⟨g, 0, none⟩) (k + 4) cap) ∧ Row w' g T cap (xs ++ bytesV (digsL n 4)) ∧ w.grownBy w' (some g) :=
  append_any g T k cap n 4 xs w hk hrow (by decide) hfit hcap hn

theorem or16 (x y : Nat) (hx : x < 256) (hy : y < 256) : bits BinOp.or IntKind.i64 ((x : Int) * 65536) ((y : Int) * 256) = ((x * 65536 + y * 256 : Nat) : Int) := by
  rw [bits_join .i64 62 (by decide) wraps_i64 16 _ _ (by omega) (by omega) (by omega) (by omega) (by omega) (by omega)]
  simp

theorem or8 (x y : Nat) (hx : x < 16777216) (hx' : x % 256 = 0) (hy : y < 256) : bits BinOp.or IntKind.i64 (x : Int) (y : Int) = ((x + y : Nat) : Int) := by
  rw [bits_join .i64 62 (by decide) wraps_i64 8 _ _ (by omega) (by omega) (by omega) (by omega) (by omega) (by omega)]
  simp

set_option maxRecDepth 100000 in
theorem encode_any (s : ByteArray) (b : Nat) (w : World) (hb : s.size = 3 * b) (h : s.size ≤ 65536) :
    Calls Tryd.prog 76 #[.string s] w fun e w' => e = .returned (.tuple #[.string (strL (encL s.data.toList)), .int .i64 0]) ∧ Below w.heap.size w w' := by
  obtain ⟨i0, hi, hz0, hz1, hz2⟩ := info_parts Tryd.info5
  have hmod : ((s.size : Int) % 3 != 0) = false := by simp only [bne_eq_false_iff_eq]; omega
  have hdiv : (s.size : Int) / 3 = (b : Int) := by omega
  have hb' : b ≤ 21845 := by omega
  have HB := Lib.hid hb
  clear hb
  go_enter Tryd.func76, Tryd.ntmps76
  go_wp2_with (at_make; refine wpList_make_own _ rfl _ _ 35 rfl w.heap.size 5 i0 (.int .u8 0) 1 Tryd.underlying35 hi hz0 hz1 .i64 .i64 _ (b * 4) rfl rfl (by omega) (by rw [hz2]; omega) (by unfold maxLen; omega) (Nat.le_refl _) ?_; intro w1 hown hgrow)
  have hr0 := (Row.of_owns hown).1
  have hb0 := (Below.refl w.heap.size w).grown hgrow (Nat.le_refl _) (fun _ e => by cases e)
  clear hown hgrow
  go_loopw [5, 23] (fun v i wr => ∃ j : Nat, j ≤ b ∧ i = .int .i64 j ∧ v = .slice (some ⟨w.heap.size, 0, none⟩) (4 * j) (b * 4) ∧ Row wr w.heap.size 5 (b * 4) (bytesV (encL (s.data.toList.take (3 * j)))) ∧ Below w.heap.size w wr) (fun _ i _ => b - (intOf i).toNat)
  case atStart => exact ⟨0, Nat.zero_le _, rfl, rfl, by simpa [bytesV, encL] using hr0, hb0⟩
  case round =>
    clear hr0 hb0
    obtain ⟨j, hj, rfl, rfl, hr, hbel⟩ := hrel
    by_cases hlt : j < b
    · have hs3 : 3 * (j + 1) ≤ s.size := by rw [HB.out]; omega
      go_wp2_with fail
      obtain ⟨bk, hbk⟩ : ∃ bk, bk = s.extract (j * 3) ((j + 1) * 3) := ⟨_, rfl⟩
      have hsz : bk.size = 3 := by rw [hbk, ext_size s _ _ (by omega) (by omega)]; omega
      obtain ⟨x0, hx0⟩ : ∃ x : Nat, x = (s.data.toList.getD (3 * j) 0).toNat := ⟨_, rfl⟩
      obtain ⟨x1, hx1⟩ : ∃ x : Nat, x = (s.data.toList.getD (3 * j + 1) 0).toNat := ⟨_, rfl⟩
      obtain ⟨x2, hx2⟩ : ∃ x : Nat, x = (s.data.toList.getD (3 * j + 2) 0).toNat := ⟨_, rfl⟩
      have g0 : ∀ h, (bk[0]'h).toNat = x0 := by rw [hbk]; intro h; rw [ext_get, hx0]; simp [Nat.mul_comm]
      have g1 : ∀ h, (bk[1]'h).toNat = x1 := by rw [hbk]; intro h; rw [ext_get, hx1]; simp [Nat.mul_comm]
      have g2 : ∀ h, (bk[2]'h).toNat = x2 := by rw [hbk]; intro h; rw [ext_get, hx2]; simp [Nat.mul_comm]
      have b0 : x0 < 256 := by rw [hx0]; exact UInt8.toNat_lt _
      have b1 : x1 < 256 := by rw [hx1]; exact UInt8.toNat_lt _
      have b2 : x2 < 256 := by rw [hx2]; exact UInt8.toNat_lt _
      have hN : blkN s.data.toList j = x0 * 65536 + x1 * 256 + x2 := by unfold blkN; rw [hx0, hx1, hx2]
      rw [← hbk]
      clear hbk hx0 hx1 hx2
      obtain ⟨y, hy⟩ : ∃ y, y = x0 * 65536 + x1 * 256 := ⟨_, rfl⟩
      obtain ⟨N, hNN⟩ : ∃ N, N = y + x2 := ⟨_, rfl⟩
      have o1 := or16 x0 x1 b0 b1
      rw [← hy] at o1
      have o2 := or8 y x2 (by omega) (by omega) b2
      rw [← hNN] at o2
      have hNlt : N < 16777216 := by omega
      have HN : Hid (blkN s.data.toList j = N) := by show _ = _; rw [hN, hNN, hy]
      clear hN hy hNN
      go_quiet (fail)
      have hlen : (bytesV (encL (s.data.toList.take (3 * j)))).length = 4 * j := by
        rw [bytesV_length, encL_length j _ (by simp; have : s.data.size = s.size := rfl; omega)]
      have HL := Lib.hid hlen
      have hstep := encL_step j s.data.toList (by simp; have : s.data.size = s.size := rfl; omega)
      rw [HN.out] at hstep
      have HS := Lib.hid hstep
      clear hlen hstep
      go_wp2_with (go_at_call 91; refine (append_four w.heap.size 5 (4 * j) (b * 4) N _ _ HL.out (hr.drewN _) (by omega) (by unfold maxLen; omega) (by omega)).mono ?_; rintro e w2 ⟨rfl, hr2, hg2⟩)
      have hbel2 := gbelow (bdrewN hbel _) hg2 hbel.size (Nat.le_refl _)
      rw [← bytesV_append, ← HS.out] at hr2
      clear hg2 hr hbel
      go_roundw
      case rel => exact ⟨j + 1, by omega, by go_num, by rw [show 4 * (j + 1) = 4 * j + 4 by omega], hr2, hbel2⟩
      case measure => simp [intOf]; omega
    · have : j = b := by omega
      subst this
      have hfull : s.data.toList.take (3 * j) = s.data.toList := by
        rw [← HB.out]; exact toList_take_size s
      rw [hfull] at hr
      have hl : (encL s.data.toList).length = 4 * j := encL_length j _ (by simp; exact HB.out)
      have hcv := conv_row (P := Tryd.prog) wr 35 9 5 w.heap.size 5 (4 * j) (j * 4) (encL s.data.toList) hl hr Tryd.underlying35 Tryd.underlying5 Tryd.underlying9
      clear hfull hl
      go_wp2
      go_ret2
      exact ⟨rfl, hbel⟩

/-- What Encode returns for any bytes. -/
def encS (l : List UInt8) : ByteArray := if 65536 < l.length ∨ l.length % 3 ≠ 0 then ⟨#[]⟩ else strL (encL l)
def encE (l : List UInt8) : Int := if 65536 < l.length then 3 else if l.length % 3 ≠ 0 then 8 else 0

theorem encode_full (s : ByteArray) (w : World) (hm : s.size ≤ maxLen) :
    Calls Tryd.prog 76 #[.string s] w fun e w' => e = .returned (.tuple #[.string (encS s.data.toList), .int .i64 (encE s.data.toList)]) ∧ Below w.heap.size w w' := by
  have hl : s.data.toList.length = s.size := by rw [Array.length_toList]; rfl
  unfold encS encE
  rw [hl]
  by_cases h : 65536 < s.size
  · rw [if_pos (.inl h), if_pos h]
    exact (encode_limit s w h hm).mono fun e w' ⟨he, hw⟩ => ⟨he, hw ▸ Below.refl _ _⟩
  · by_cases h3 : s.size % 3 ≠ 0
    · rw [if_pos (.inr h3), if_neg h, if_pos h3]
      exact (encode_size s w (by omega) h3).mono fun e w' ⟨he, hw⟩ => ⟨he, hw ▸ Below.refl _ _⟩
    · rw [if_neg (by omega), if_neg h, if_neg h3]
      exact encode_any s (s.size / 3) w (by omega) (by omega)

end Go.Proofs.YtpophimnoakinaaDoor
