/- What the two directions of base 64 say of one another: digits of numbers, texts of bytes. Nothing of the program is imported. -/
import Derived.Test.YtefhhfpdponabaaPlain
namespace Go.Proofs.Ytefhhfpdponabaa
open Go
set_option linter.unusedVariables false
set_option linter.unusedSimpArgs false

theorem allD_map (l : List Nat) (h : ∀ v ∈ l, v < 64) : allD (l.map dig) = true := by
  unfold allD
  rw [List.all_eq_true]
  intro c hc
  obtain ⟨v, hv, rfl⟩ := List.mem_map.1 hc
  rw [val1_dig v (h v hv)]
  simp
theorem digsL_map (n k : Nat) : digsL n k = ((List.range k).map fun i => n / 2 ^ (6 * (k - 1 - i)) % 64).map dig := by
  unfold digsL; rw [List.map_map]; rfl
theorem allD_digsL (n k : Nat) : allD (digsL n k) = true := by
  rw [digsL_map]
  apply allD_map
  intro v hv
  obtain ⟨i, _, rfl⟩ := List.mem_map.1 hv
  exact Nat.mod_lt _ (by decide)
theorem digsL_succ (n k : Nat) : digsL n (k + 1) = digsL (n / 64) k ++ [dig (n % 64)] := by
  unfold digsL
  rw [List.range_succ, List.map_append, List.map_singleton]
  congr 1
  · apply List.map_congr_left
    intro i hi
    have hi' : i < k := List.mem_range.1 hi
    rw [show k + 1 - 1 - i = (k - 1 - i) + 1 by omega, Nat.div_div_eq_div_mul, show 6 * (k - 1 - i + 1) = 6 + 6 * (k - 1 - i) by omega, Nat.pow_add]
  · simp
theorem numL_digsL (k : Nat) : ∀ n, n < 64 ^ k → numL (digsL n k) = n := by
  induction k with
  | zero => intro n h; simp at h; subst h; rfl
  | succ k ih =>
    intro n h
    rw [digsL_succ, numL_snoc, ih (n / 64) (by rw [Nat.pow_succ] at h; omega), val1_dig _ (Nat.mod_lt _ (by decide))]
    omega

theorem allD_cons (a : UInt8) (l : List UInt8) : allD (a :: l) = (decide (val1 a.toNat ≠ 0) && allD l) := by simp [allD]
theorem dig_of_val (a : UInt8) (h : val1 a.toNat ≠ 0) : dig (val1 a.toNat - 1) = a := by
  apply UInt8.toNat_inj.1
  exact dig_val1 _ h
theorem encL_byts (n : Nat) (h : n < 16777216) (r : List UInt8) : encL (decL.byts n ++ r) = digsL n 4 ++ encL r := by
  show digsL ((UInt8.ofNat (n / 65536)).toNat * 65536 + (UInt8.ofNat (n / 256)).toNat * 256 + (UInt8.ofNat n).toNat) 4 ++ encL r = _
  simp only [UInt8.toNat_ofNat']
  have e : n / 65536 % 2 ^ 8 * 65536 + n / 256 % 2 ^ 8 * 256 + n % 2 ^ 8 = n := by omega
  rw [e]

/-- Encode gives back the text that Decode has read. -/
theorem encL_decL : ∀ (q : Nat) (l : List UInt8), l.length = 4 * q → allD l = true → encL (decL l) = l
  | 0, l, h, _ => by obtain rfl : l = [] := List.length_eq_zero_iff.1 (by simpa using h); rfl
  | q + 1, a :: b :: c :: d :: r, h, ha => by
    have ih := encL_decL q r (by simp at h; omega) (by simp only [allD_cons, Bool.and_eq_true] at ha; exact ha.2.2.2.2)
    simp only [allD_cons, Bool.and_eq_true, decide_eq_true_eq] at ha
    obtain ⟨ha, hb, hc, hd, _⟩ := ha
    have la := val1_le a.toNat
    have lb := val1_le b.toNat
    have lc := val1_le c.toNat
    have ld := val1_le d.toNat
    have hn : numL [a, b, c, d] = (((val1 a.toNat - 1) * 64 + (val1 b.toNat - 1)) * 64 + (val1 c.toNat - 1)) * 64 + (val1 d.toNat - 1) := by simp [numL]
    rw [show decL (a :: b :: c :: d :: r) = decL.byts (numL [a, b, c, d]) ++ decL r from rfl, encL_byts _ (numL_lt_of _ 4 _ (by simp) (by decide)), ih, digsL_four, hn]
    have e1 : ((((val1 a.toNat - 1) * 64 + (val1 b.toNat - 1)) * 64 + (val1 c.toNat - 1)) * 64 + (val1 d.toNat - 1)) / 262144 % 64 = val1 a.toNat - 1 := by omega
    have e2 : ((((val1 a.toNat - 1) * 64 + (val1 b.toNat - 1)) * 64 + (val1 c.toNat - 1)) * 64 + (val1 d.toNat - 1)) / 4096 % 64 = val1 b.toNat - 1 := by omega
    have e3 : ((((val1 a.toNat - 1) * 64 + (val1 b.toNat - 1)) * 64 + (val1 c.toNat - 1)) * 64 + (val1 d.toNat - 1)) / 64 % 64 = val1 c.toNat - 1 := by omega
    have e4 : ((((val1 a.toNat - 1) * 64 + (val1 b.toNat - 1)) * 64 + (val1 c.toNat - 1)) * 64 + (val1 d.toNat - 1)) % 64 = val1 d.toNat - 1 := by omega
    rw [e1, e2, e3, e4, dig_of_val a ha, dig_of_val b hb, dig_of_val c hc, dig_of_val d hd]
    rfl
  | q + 1, [], h, _ => by simp at h
  | q + 1, [a], h, _ => by simp at h; omega
  | q + 1, [a, b], h, _ => by simp at h; omega
  | q + 1, [a, b, c], h, _ => by simp at h; omega

theorem allD_encL : ∀ (q : Nat) (l : List UInt8), l.length = 3 * q → allD (encL l) = true
  | 0, l, h => by obtain rfl : l = [] := List.length_eq_zero_iff.1 (by simpa using h); rfl
  | q + 1, a :: b :: c :: r, h => by
    simp only [encL, allD_append, allD_digsL, Bool.true_and]
    exact allD_encL q r (by simp at h; omega)
  | q + 1, [], h => by simp at h
  | q + 1, [a], h => by simp at h; omega
  | q + 1, [a, b], h => by simp at h; omega
theorem byts_of (a b c : UInt8) : decL.byts (a.toNat * 65536 + b.toNat * 256 + c.toNat) = [a, b, c] := by
  have ha := UInt8.toNat_lt a
  have hb := UInt8.toNat_lt b
  have hc := UInt8.toNat_lt c
  unfold decL.byts
  refine List.cons_eq_cons.2 ⟨?_, List.cons_eq_cons.2 ⟨?_, List.cons_eq_cons.2 ⟨?_, rfl⟩⟩⟩ <;>
    (apply UInt8.toNat_inj.1; rw [UInt8.toNat_ofNat']; omega)
/-- Decode gives back the bytes that Encode has written. -/
theorem decL_encL : ∀ (q : Nat) (l : List UInt8), l.length = 3 * q → decL (encL l) = l
  | 0, l, h => by obtain rfl : l = [] := List.length_eq_zero_iff.1 (by simpa using h); rfl
  | q + 1, a :: b :: c :: r, h => by
    have ih := decL_encL q r (by simp at h; omega)
    have hlt : a.toNat * 65536 + b.toNat * 256 + c.toNat < 64 ^ 4 := by
      have ha := UInt8.toNat_lt a
      have hb := UInt8.toNat_lt b
      have hc := UInt8.toNat_lt c
      have : (64 : Nat) ^ 4 = 16777216 := by decide
      omega
    have hn := numL_digsL 4 _ hlt
    rw [digsL_four] at hn
    show decL (digsL _ 4 ++ encL r) = _
    rw [digsL_four]
    simp only [List.cons_append, List.nil_append, decL]
    rw [hn, ih, byts_of]
    rfl
  | q + 1, [], h => by simp at h
  | q + 1, [a], h => by simp at h; omega
  | q + 1, [a, b], h => by simp at h; omega

end Go.Proofs.Ytefhhfpdponabaa
