/- The plain mathematics of base 64 digits: the alphabet, the table of values, and what both say of one another. Nothing of the program is imported. -/
import Derived.WalkKit
namespace Go.Proofs.Ytefhhfpdponabaa
open Go
set_option linter.unusedVariables false
set_option linter.unusedSimpArgs false

/-- The 64 digits, as bytes. -/
def alph : List UInt8 := [65, 66, 67, 68, 69, 70, 71, 72, 73, 74, 75, 76, 77, 78, 79, 80, 81, 82, 83, 84, 85, 86, 87, 88, 89, 90, 97, 98, 99, 100, 101, 102, 103, 104, 105, 106, 107, 108, 109, 110, 111, 112, 113, 114, 115, 116, 117, 118, 119, 120, 121, 122, 48, 49, 50, 51, 52, 53, 54, 55, 56, 57, 45, 95]

/-- The digit with number n (the first one beyond the range). -/
def dig (n : Nat) : UInt8 := alph.getD n 65

/-- The number of a character among the digits, plus 1; 0 for a character that is no digit. -/
def val1 (c : Nat) : Nat :=
  if 65 ≤ c ∧ c ≤ 90 then c - 64 else if 97 ≤ c ∧ c ≤ 122 then c - 70 else if 48 ≤ c ∧ c ≤ 57 then c + 5 else if c = 45 then 63 else if c = 95 then 64 else 0

theorem val1_le (c : Nat) : val1 c ≤ 64 := by unfold val1; (repeat' split) <;> omega
theorem val1_big (c : Nat) (h : 128 ≤ c) : val1 c = 0 := by unfold val1; (repeat' split) <;> omega
theorem val1_dig (n : Nat) (h : n < 64) : val1 (dig n).toNat = n + 1 := by
  have : ∀ n : Fin 64, val1 (dig n.val).toNat = n.val + 1 := by decide
  exact this ⟨n, h⟩
theorem dig_val1 (c : Nat) (h : val1 c ≠ 0) : (dig (val1 c - 1)).toNat = c := by
  have all : ∀ c : Fin 128, val1 c.val ≠ 0 → (dig (val1 c.val - 1)).toNat = c.val := by decide
  by_cases hc : c < 128
  · exact all ⟨c, hc⟩ h
  · exact absurd (val1_big c (by omega)) h
theorem dig_small (n : Nat) : (dig n).toNat < 128 := by
  by_cases h : n < 64
  · have : ∀ n : Fin 64, (dig n.val).toNat < 128 := by decide
    exact this ⟨n, h⟩
  · unfold dig; have : alph[n]? = none := List.getElem?_eq_none (by simp [alph]; omega)
    rw [List.getD, this]; decide

/-- The lowest count digits of n, the highest one first. -/
def digsL (n count : Nat) : List UInt8 := (List.range count).map fun i => dig (n / 2 ^ (6 * (count - 1 - i)) % 64)
/-- Bytes as memory holds them. -/
def bytesV (l : List UInt8) : List Value := l.map fun b => Value.int .u8 (b.toNat : Int)

theorem digsL_length (n count : Nat) : (digsL n count).length = count := by simp [digsL]
theorem bytesV_length (l : List UInt8) : (bytesV l).length = l.length := by simp [bytesV]
theorem bytesV_append (a b : List UInt8) : bytesV (a ++ b) = bytesV a ++ bytesV b := by simp [bytesV]
theorem digsL_take (n count j : Nat) (h : j < count) : (digsL n count).take (j + 1) = (digsL n count).take j ++ [dig (n / 2 ^ (6 * (count - 1 - j)) % 64)] := by
  rw [List.take_succ_eq_append_getElem (by simp [digsL]; exact h)]
  simp [digsL]

/-- Is each character a digit? The number that the digits are. -/
def allD (l : List UInt8) : Bool := l.all fun c => decide (val1 c.toNat ≠ 0)
def numL (l : List UInt8) : Nat := l.foldl (fun n c => n * 64 + (val1 c.toNat - 1)) 0
/-- What readDigits returns as the number. -/
def rnum (l : List UInt8) : Nat := if allD l = true then numL l else 0

theorem numL_snoc (l : List UInt8) (c : UInt8) : numL (l ++ [c]) = numL l * 64 + (val1 c.toNat - 1) := by simp [numL]
theorem numL_lt (l : List UInt8) : numL l < 64 ^ l.length := by
  suffices h : ∀ n (l : List UInt8), l.length = n → numL l < 64 ^ n from h _ l rfl
  intro n
  induction n with
  | zero => intro l hl; rw [List.length_eq_zero_iff.1 hl]; decide
  | succ n ih =>
    intro l hl
    have hne : l ≠ [] := by intro e; rw [e] at hl; simp at hl
    have e := List.dropLast_concat_getLast hne
    rw [← e, numL_snoc, Nat.pow_succ]
    have h1 := ih l.dropLast (by simp [hl])
    have h2 := val1_le (l.getLast hne).toNat
    omega
theorem numL_lt_of (l : List UInt8) (k m : Nat) (h : l.length ≤ k) (hm : 64 ^ k ≤ m) : numL l < m :=
  Nat.lt_of_lt_of_le (numL_lt l) (Nat.le_trans (Nat.pow_le_pow_right (by decide) h) hm)
theorem allD_snoc (l : List UInt8) (c : UInt8) : allD (l ++ [c]) = (allD l && decide (val1 c.toNat ≠ 0)) := by simp [allD]
theorem take_snoc (s : ByteArray) (k : Nat) (h : k < s.size) : s.data.toList.take (k + 1) = s.data.toList.take k ++ [s[k]] := by
  rw [List.take_succ_eq_append_getElem (by simpa using h)]; rfl
theorem allD_false_of (s : ByteArray) (k : Nat) (h : k < s.size) (hz : val1 s[k].toNat = 0) : allD s.data.toList = false := by
  rw [← List.take_append_drop (k + 1) s.data.toList, take_snoc s k h]
  simp [allD, hz]
theorem toList_take_size (s : ByteArray) : s.data.toList.take s.size = s.data.toList := by
  apply List.take_of_length_le
  show s.data.toList.length ≤ s.data.size
  simp

/-- The text of bytes: each three are four digits; what is left over is dropped. -/
def encL : List UInt8 → List UInt8
  | a :: b :: c :: r => digsL (a.toNat * 65536 + b.toNat * 256 + c.toNat) 4 ++ encL r
  | _ => []
/-- The number of 24 bits that the i-th three bytes are. -/
def blkN (l : List UInt8) (i : Nat) : Nat := (l.getD (3 * i) 0).toNat * 65536 + (l.getD (3 * i + 1) 0).toNat * 256 + (l.getD (3 * i + 2) 0).toNat

theorem blkN_succ (a b c : UInt8) (r : List UInt8) (i : Nat) : blkN (a :: b :: c :: r) (i + 1) = blkN r i := by
  unfold blkN
  rw [show 3 * (i + 1) = 3 * i + 3 by omega, show 3 * i + 3 + 1 = (3 * i + 1) + 3 by omega, show 3 * i + 3 + 2 = (3 * i + 2) + 3 by omega]
  rfl
theorem encL_step : ∀ (i : Nat) (l : List UInt8), 3 * (i + 1) ≤ l.length → encL (l.take (3 * (i + 1))) = encL (l.take (3 * i)) ++ digsL (blkN l i) 4
  | 0, a :: b :: c :: r, _ => by simp [encL, blkN]
  | i + 1, a :: b :: c :: r, h => by
    have ih := encL_step i r (by simp at h; omega)
    rw [blkN_succ, show 3 * (i + 1 + 1) = 3 * (i + 1) + 3 by omega, show 3 * (i + 1) = 3 * i + 3 by omega]
    simp only [List.take_succ_cons, encL]
    rw [show 3 * i + 3 = 3 * (i + 1) by omega, ih, List.append_assoc]
  | _, [], h => by simp at h
  | _, [a], h => by simp at h; omega
  | _, [a, b], h => by simp at h; omega
theorem encL_length : ∀ (n : Nat) (l : List UInt8), l.length = 3 * n → (encL l).length = 4 * n
  | 0, l, h => by obtain rfl : l = [] := List.length_eq_zero_iff.1 (by simpa using h); rfl
  | n + 1, a :: b :: c :: r, h => by
    simp only [encL, List.length_append, digsL_length, encL_length n r (by simp at h; omega)]
    omega
  | n + 1, [], h => by simp at h
  | n + 1, [a], h => by simp at h; omega
  | n + 1, [a, b], h => by simp at h; omega
theorem blkN_lt (l : List UInt8) (i : Nat) : blkN l i < 16777216 := by
  unfold blkN
  have := UInt8.toNat_lt (l.getD (3 * i) 0)
  have := UInt8.toNat_lt (l.getD (3 * i + 1) 0)
  have := UInt8.toNat_lt (l.getD (3 * i + 2) 0)
  omega

/-- A part of a string: its length, its characters. -/
theorem ext_size (s : ByteArray) (a b : Nat) (h : a ≤ b) (hb : b ≤ s.size) : (s.extract a b).size = b - a := by
  rw [ByteArray.size_extract]; omega
theorem ext_data (s : ByteArray) (a b : Nat) : (s.extract a b).data.toList = (s.data.toList.take b).drop a := by
  rw [ByteArray.data_extract]
  simp [List.drop_take]
theorem ext_get (s : ByteArray) (a b i : Nat) (h : i < (s.extract a b).size) : (s.extract a b)[i]'h = s.data.toList.getD (a + i) 0 := by
  have h1 : i < (s.extract a b).data.toList.length := by rw [Array.length_toList]; exact h
  have h2 : (s.extract a b)[i]'h = (s.extract a b).data.toList[i]'h1 := rfl
  have h3 := congrArg (·[i]?) (ext_data s a b)
  simp only [List.getElem?_eq_getElem h1, List.getElem?_drop, List.getElem?_take] at h3
  rw [h2, List.getD]
  split at h3
  · rw [← h3]; rfl
  · cases h3

/-- The bytes of a text of digits: each four are three bytes; what is left over is dropped. -/
def decL : List UInt8 → List UInt8
  | a :: b :: c :: d :: r => byts (numL [a, b, c, d]) ++ decL r
  | _ => []
where byts (n : Nat) : List UInt8 := [UInt8.ofNat (n / 65536), UInt8.ofNat (n / 256), UInt8.ofNat n]
/-- The i-th four characters. -/
def fourL (l : List UInt8) (i : Nat) : List UInt8 := (l.take (4 * (i + 1))).drop (4 * i)

theorem fourL_succ (a b c d : UInt8) (r : List UInt8) (i : Nat) : fourL (a :: b :: c :: d :: r) (i + 1) = fourL r i := by
  unfold fourL
  rw [show 4 * (i + 1 + 1) = 4 * (i + 1) + 4 by omega, show 4 * (i + 1) = 4 * i + 4 by omega]
  rfl
theorem decL_step : ∀ (i : Nat) (l : List UInt8), 4 * (i + 1) ≤ l.length → decL (l.take (4 * (i + 1))) = decL (l.take (4 * i)) ++ decL.byts (numL (fourL l i))
  | 0, a :: b :: c :: d :: r, _ => by simp [decL, fourL]
  | i + 1, a :: b :: c :: d :: r, h => by
    have ih := decL_step i r (by simp at h; omega)
    rw [fourL_succ, show 4 * (i + 1 + 1) = 4 * (i + 1) + 4 by omega, show 4 * (i + 1) = 4 * i + 4 by omega]
    simp only [List.take_succ_cons, decL]
    rw [show 4 * i + 4 = 4 * (i + 1) by omega, ih, List.append_assoc]
  | _, [], h => by simp at h
  | _, [a], h => by simp at h; omega
  | _, [a, b], h => by simp at h; omega
  | _, [a, b, c], h => by simp at h; omega
theorem decL_length : ∀ (n : Nat) (l : List UInt8), l.length = 4 * n → (decL l).length = 3 * n
  | 0, l, h => by obtain rfl : l = [] := List.length_eq_zero_iff.1 (by simpa using h); rfl
  | n + 1, a :: b :: c :: d :: r, h => by
    simp only [decL, decL.byts, List.length_append, decL_length n r (by simp at h; omega), List.length_cons, List.length_nil]
    omega
  | n + 1, [], h => by simp at h
  | n + 1, [a], h => by simp at h; omega
  | n + 1, [a, b], h => by simp at h; omega
  | n + 1, [a, b, c], h => by simp at h; omega
theorem allD_append (a b : List UInt8) : allD (a ++ b) = (allD a && allD b) := by simp [allD]
theorem allD_four (l : List UInt8) (i : Nat) : allD (l.take (4 * (i + 1))) = (allD (l.take (4 * i)) && allD (fourL l i)) := by
  have : l.take (4 * (i + 1)) = l.take (4 * i) ++ fourL l i := by
    unfold fourL
    conv => lhs; rw [← List.take_append_drop (4 * i) (l.take (4 * (i + 1)))]
    rw [List.take_take, Nat.min_eq_left (by omega)]
  rw [this]
  simp [allD]
theorem allD_take_false (l : List UInt8) (n : Nat) (h : allD (l.take n) = false) : allD l = false := by
  rw [← List.take_append_drop n l]
  rw [allD_append, h]; rfl

theorem bytesV_byts (N : Nat) (h : N < 16777216) : bytesV (decL.byts N) = [.int .u8 ((N : Int) / 65536), .int .u8 ((N : Int) / 256 % 256), .int .u8 ((N : Int) % 256)] := by
  simp only [bytesV, decL.byts, List.map_cons, List.map_nil, UInt8.toNat_ofNat', List.cons.injEq, Value.int.injEq, true_and, and_true]
  refine ⟨by omega, by omega, by omega⟩

theorem digsL_four (n : Nat) : digsL n 4 = [dig (n / 262144 % 64), dig (n / 4096 % 64), dig (n / 64 % 64), dig (n % 64)] := by
  simp [digsL, List.range_succ]

end Go.Proofs.Ytefhhfpdponabaa
