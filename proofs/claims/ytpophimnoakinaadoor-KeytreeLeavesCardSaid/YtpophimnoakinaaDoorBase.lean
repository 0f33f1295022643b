/- Contracts of the functions of package base64 (Value, Digit, appendDigits, readDigits, Encode, Decode, Number, Parse): what each returns, and that it changes no old memory. The table of values must read as the program lays it. -/
import Derived.Test.YtpophimnoakinaaDoorRows
import Derived.Test.YtpophimnoakinaaDoorMem
import Derived.Test.YtpophimnoakinaaDoorPlain
import Derived.WalkKit
import Derived.ProofKit
import Derived.OpenShut
import Derived.WalkSpells
import Derived.WalkLawsBesides
import Derived.Outline
import Derived.Lib.Hide
namespace Go.Proofs.YtpophimnoakinaaDoor
open Go.ChangeShapes Go.WideShapes Go.ChangeAt Go.RowKit
set_option linter.unusedVariables false
set_option linter.unusedSimpArgs false


/-- The table of values, in block 0. -/
def Tab (w : World) : Prop := ∀ i, i < 128 → w.cell? ⟨4, i, none⟩ = some (.int .u8 (val1 i : Int))

/-- What Value returns for the character c. -/
def vnum (c : Nat) : Int := (val1 c - 1 : Nat)

def vis (c : Nat) : Bool := decide (val1 c ≠ 0)

set_option maxRecDepth 100000 in
theorem value_any (c : Nat) (w : World) (hc : c < 256) (hT : Tab w) :
    Calls Tryd.prog 103 #[.int .u8 c] w fun e w' => e = .returned (.tuple #[.int .i64 (vnum c), .bool (vis c)]) ∧ w = w' := by
  by_cases h1 : c < 128
  · have hcell := hT c h1
    have hle := val1_le c
    have eN : vnum c = (val1 c - 1 : Nat) := rfl
    have eB : vis c = decide (val1 c ≠ 0) := rfl
    obtain ⟨v, hv⟩ : ∃ v, v = val1 c := ⟨_, rfl⟩
    rw [← hv] at hcell hle eN eB
    clear hv hT
    have EN := Lib.hid eN
    have EB := Lib.hid eB
    clear eN eB
    by_cases h2 : v = 0
    · subst h2
      go_enter Tryd.func103, Tryd.ntmps103
      go_wp2
      go_ret2
      rw [EN.out, EB.out]
      exact ⟨rfl, rfl⟩
    · have hz : ((v : Int) == 0) = false := by simp; omega
      go_enter Tryd.func103, Tryd.ntmps103
      go_wp2
      go_ret2
      have e1 : ((v - 1 : Nat) : Int) = (v : Int) - 1 := by omega
      have e2 : decide (v ≠ 0) = true := by simp; omega
      rw [EN.out, EB.out, e1, e2]
      exact ⟨rfl, rfl⟩
  · have eN : vnum c = 0 := by unfold vnum; rw [val1_big c (by omega)]; rfl
    have eB : vis c = false := by unfold vis; rw [val1_big c (by omega)]; rfl
    have EN := Lib.hid eN
    have EB := Lib.hid eB
    clear eN eB
    have h2 : 128 ≤ c := by omega
    go_enter Tryd.func103, Tryd.ntmps103
    go_wp2
    go_ret2
    rw [EN.out, EB.out]
    exact ⟨rfl, rfl⟩

/-- The program's constant has the digits. -/
theorem alph_get (m : Nat) (h : m < ByteArray.size { data := #[65, 66, 67, 68, 69, 70, 71, 72, 73, 74, 75, 76, 77, 78, 79, 80, 81, 82, 83, 84, 85, 86, 87, 88, 89, 90, 97, 98, 99, 100, 101, 102, 103, 104, 105, 106, 107, 108, 109, 110, 111, 112, 113, 114, 115, 116, 117, 118, 119, 120, 121, 122, 48, 49, 50, 51, 52, 53, 54, 55, 56, 57, 45, 95] }) : ({ data := #[65, 66, 67, 68, 69, 70, 71, 72, 73, 74, 75, 76, 77, 78, 79, 80, 81, 82, 83, 84, 85, 86, 87, 88, 89, 90, 97, 98, 99, 100, 101, 102, 103, 104, 105, 106, 107, 108, 109, 110, 111, 112, 113, 114, 115, 116, 117, 118, 119, 120, 121, 122, 48, 49, 50, 51, 52, 53, 54, 55, 56, 57, 45, 95] } : ByteArray)[m]'h = dig m := by
  have all : ∀ m : Fin 64, ({ data := #[65, 66, 67, 68, 69, 70, 71, 72, 73, 74, 75, 76, 77, 78, 79, 80, 81, 82, 83, 84, 85, 86, 87, 88, 89, 90, 97, 98, 99, 100, 101, 102, 103, 104, 105, 106, 107, 108, 109, 110, 111, 112, 113, 114, 115, 116, 117, 118, 119, 120, 121, 122, 48, 49, 50, 51, 52, 53, 54, 55, 56, 57, 45, 95] } : ByteArray)[m.val]'(m.isLt) = dig m.val := by decide
  exact all ⟨m, h⟩



theorem Tryd.info5 : (Tryd.prog.info? 5).map (fun i => (i.zero, i.size, i.bytes)) = some (some (.int .u8 0), 1, 1) := by kernel_rfl

theorem i64_and63 (n : Int) : bits .and .i64 n 63 = n % 64 := by
  have h127 : (BitVec.ofInt 64 63).toNat = 2 ^ 6 - 1 := by decide
  have key : (BitVec.ofInt 64 n &&& BitVec.ofInt 64 63).toNat = (n % ((2 ^ 64 : Nat) : Int)).toNat % 2 ^ 6 := by
    rw [BitVec.toNat_and, BitVec.toNat_ofInt, h127, Nat.and_two_pow_sub_one_eq_mod]
  show IntKind.i64.wrap ((BitVec.ofInt 64 n &&& BitVec.ofInt 64 63).toNat : Nat) = n % 64
  rw [key, IntKind.wrap_i64]
  omega

set_option maxRecDepth 100000 in
theorem append_any (g T k cap : Nat) (n count : Nat) (xs : List Value) (w : World) (hk : xs.length = k) (hrow : Row w g T cap xs) (hc8 : count ≤ 8) (hfit : k + count ≤ cap) (hcap : cap ≤ maxLen) (hn : n < 2 ^ 62) :
    Calls Tryd.prog 91 #[.slice (some ⟨g, 0, none⟩) k cap, .int .i64 n, .int .i64 count] w fun e w' => e = .returned (.slice (some ⟨g, 0, none⟩) (k + count) cap) ∧ Row w' g T cap (xs ++ bytesV (digsL n count)) ∧ w.grownBy w' (some g) := by
  unfold maxLen at hcap
  obtain ⟨i0, hi, hz0, hz1, hz2⟩ := info_parts Tryd.info5
  go_enter Tryd.func91, Tryd.ntmps91
  go_wp2
  go_loopw [0, 10] (fun v i wr => ∃ j : Nat, j ≤ count ∧ i = .int .i64 j ∧ v = .slice (some ⟨g, 0, none⟩) (k + j) cap ∧ Row wr g T cap (xs ++ bytesV ((digsL n count).take j)) ∧ w.grownBy wr (some g)) (fun _ i _ => count - (intOf i).toNat)
  case atStart => exact ⟨0, Nat.zero_le _, rfl, rfl, by simpa [bytesV] using hrow, World.grownBy.refl _ _⟩
  case round =>
    obtain ⟨j, hj, rfl, rfl, hr, hg⟩ := hrel
    by_cases hlt : j < count
    · obtain ⟨m, hm⟩ : ∃ m, m = n / 2 ^ (6 * (count - 1 - j)) % 64 := ⟨_, rfl⟩
      have hb : bits BinOp.and IntKind.i64 (↑n / 2 ^ (6 * (count - 1 - j))) 63 = (m : Int) := by rw [i64_and63, hm]; simp
      have hm64 : m < 64 := by rw [hm]; exact Nat.mod_lt _ (by decide)
      have HM : Hid (m = n / 2 ^ (6 * (count - 1 - j)) % 64) := hm
      clear hm
      have ha := alph_get m
      have hlen : (xs ++ bytesV ((digsL n count).take j)).length = k + j := by simp [bytesV, digsL_length, hk]; omega
      have HL := Lib.hid hlen
      clear hlen
      go_wp2_with (at_builtin; refine wpList_append_row _ rfl (.tmp 18) (.tmp 24) 35 rfl 5 i0 Tryd.underlying35 hi hz1 g T (k + j) cap _ rfl HL.out (hr.alloc _) ⟨wr.heap.size, 0, none⟩ 1 1 [.int .u8 (dig m).toNat] rfl rfl (cell_one_new _ _ _) (by intro u hu; simp at hu; subst hu; rfl) (by omega) ?_)
      intro w1 hr1 hg1
      have hr2 : Row w1 g T cap (xs ++ bytesV ((digsL n count).take (j + 1))) := by
        rw [digsL_take n count j hlt, bytesV_append, ← HM.out]
        simpa [bytesV] using hr1
      have hg2 : w.grownBy w1 (some g) := gtrans hg (gtrans (galloc _ _ _) hg1)
      clear hr1 hg1 hr hg ha hb
      go_wp2
      go_roundw
      case rel => exact ⟨j + 1, by omega, by go_num, by simp; omega, hr2, hg2⟩
      case measure => simp [intOf]; omega
    · have : j = count := by omega
      subst this
      go_wp2
      go_ret
      rw [List.take_of_length_le (by simp [digsL_length])] at hr
      exact ⟨rfl, hr, hg⟩

theorem value_dig (c : Nat) (v : Nat) (w : World) (hc : c < 256) (hv : val1 c = v + 1) (hT : Tab w) :
    Calls Tryd.prog 103 #[.int .u8 c] w fun e w' => e = .returned (.tuple #[.int .i64 v, .bool true]) ∧ w = w' :=
  (value_any c w hc hT).mono fun e w' ⟨he, hw⟩ => ⟨by rw [he]; unfold vnum vis; rw [hv]; simp, hw⟩

theorem value_not (c : Nat) (w : World) (hc : c < 256) (hv : val1 c = 0) (hT : Tab w) :
    Calls Tryd.prog 103 #[.int .u8 c] w fun e w' => e = .returned (.tuple #[.int .i64 0, .bool false]) ∧ w = w' :=
  (value_any c w hc hT).mono fun e w' ⟨he, hw⟩ => ⟨by rw [he]; unfold vnum vis; rw [hv]; simp, hw⟩

theorem wraps_i64 (n : Int) (h₀ : 0 ≤ n) (h₁ : n < 2 ^ 62) : IntKind.i64.wrap n = n := by rw [IntKind.wrap_i64]; omega

theorem or6 (x v : Nat) (hx : x < 2 ^ 50) (hv : v < 64) : bits BinOp.or IntKind.i64 ((x : Int) * 64) (v : Int) = ((x * 64 + v : Nat) : Int) := by
  rw [bits_join .i64 62 (by decide) wraps_i64 6 _ _ (by omega) (by omega) (by omega) (by omega) (by omega) (by omega)]
  simp

set_option maxRecDepth 100000 in
theorem read_any (s : ByteArray) (w : World) (hs : s.size ≤ 8) (hT : Tab w) :
    Calls Tryd.prog 102 #[.string s] w fun e w' => e = .returned (.tuple #[.int .i64 (rnum s.data.toList), .bool (allD s.data.toList)]) ∧ w = w' := by
  have HT := Lib.hid hT
  clear hT
  go_enter Tryd.func102, Tryd.ntmps102
  go_wp2
  go_loop [4, 10] (fun n i => ∃ k : Nat, k ≤ s.size ∧ i = .int .i64 k ∧ n = .int .i64 (numL (s.data.toList.take k)) ∧ allD (s.data.toList.take k) = true) (fun _ i => s.size - (intOf i).toNat)
  case atStart => exact ⟨0, Nat.zero_le _, rfl, rfl, rfl⟩
  case round =>
    obtain ⟨k, hk, rfl, rfl, hall⟩ := hrel
    have HA := Lib.hid hall
    clear hall
    by_cases hlt : k < s.size
    · obtain ⟨x, hx⟩ : ∃ x, x = numL (s.data.toList.take k) := ⟨_, rfl⟩
      have hxl : x < 64 ^ 7 := by rw [hx]; exact numL_lt_of _ 7 _ (by simp; omega) (Nat.le_refl _)
      rw [← hx]
      have HX := Lib.hid hx
      clear hx
      by_cases hz : val1 s[k].toNat = 0
      · have e1 : allD s.data.toList = false := allD_false_of s k hlt hz
        have e2 : rnum s.data.toList = 0 := by unfold rnum; rw [e1]; rfl
        have E1 := Lib.hid e1
        have E2 := Lib.hid e2
        have HZ := Lib.hid hz
        clear e1 e2 hz
        go_wp2_with (go_at_call 103; refine (value_not _ _ (UInt8.toNat_lt _) HZ.out HT.out).mono ?_; rintro e w' ⟨rfl, rfl⟩)
        go_ret2
        rw [E1.out, E2.out]
        exact ⟨rfl, rfl⟩
      · obtain ⟨v, hv⟩ : ∃ v, val1 s[k].toNat = v + 1 := ⟨val1 s[k].toNat - 1, by omega⟩
        have hv64 : v < 64 := by have := val1_le s[k].toNat; omega
        have hor := or6 x v (by omega) hv64
        have HV := Lib.hid hv
        have hnz := Lib.hid hz
        clear hv hz
        go_wp2_with (go_at_call 103; refine (value_dig _ _ _ (UInt8.toNat_lt _) HV.out HT.out).mono ?_; rintro e w' ⟨rfl, rfl⟩)
        go_round
        case rel =>
          refine ⟨k + 1, by omega, by go_num, ?_, ?_⟩
          · rw [take_snoc s k hlt, numL_snoc, HV.out, ← HX.out]; simp
          · rw [take_snoc s k hlt, allD_snoc, HA.out]; simp [hnz.out]
        case measure => simp [intOf]; omega
    · have : k = s.size := by omega
      subst this
      go_wp2
      go_ret2
      have HA' := HA.out
      rw [toList_take_size] at HA' ⊢
      unfold rnum
      rw [HA']
      exact ⟨rfl, rfl⟩

end Go.Proofs.YtpophimnoakinaaDoor
