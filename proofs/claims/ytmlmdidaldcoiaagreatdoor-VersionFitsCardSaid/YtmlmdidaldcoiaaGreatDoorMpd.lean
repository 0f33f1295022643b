/- The second serialisation as data: heads, the bytes of nodes, and that nothing else has them. No program. -/
import Derived.Test.YtmlmdidaldcoiaaGreatDoorNkit
import Derived.Lib.ItoaNum
import Derived.Lib.ItoaLen
namespace Go.Proofs.YtmlmdidaldcoiaaGreatDoor
set_option linter.unusedVariables false
set_option linter.unusedSimpArgs false

/-- A number in k bytes, the highest first. -/
def bigL (n : Nat) : Nat → List UInt8
 | 0 => []
 | k + 1 => UInt8.ofNat (n / 256 ^ k) :: bigL n k
theorem bigL_length (n : Nat) : ∀ k, (bigL n k).length = k
 | 0 => rfl
 | k + 1 => by rw [bigL, List.length_cons, bigL_length n k]
/-- How many bytes follow a head's first one, and what its five lowest bits are. -/
def headK (n : Nat) : Nat := if n < 24 then 0 else if n < 256 then 1 else if n < 65536 then 2 else if n < 4294967296 then 4 else 8
def headV (n : Nat) : Nat := if n < 24 then n else if n < 256 then 24 else if n < 65536 then 25 else if n < 4294967296 then 26 else 27
/-- A head. -/
def headL (m n : Nat) : List UInt8 := UInt8.ofNat (32 * m + headV n) :: bigL n (headK n)
theorem headL_length (m n : Nat) : (headL m n).length = headK n + 1 := by rw [headL, List.length_cons, bigL_length]
theorem headK_le (n : Nat) : headK n ≤ 8 := by
 unfold headK
 (repeat' split) <;> omega
/-- The major type and the number of a node's head. -/
def cMaj (x : ND) : Nat := if x.kind = 1 then 7 else if x.kind = 2 then (if x.num < 0 then 1 else 0) else if x.kind = 3 then 3 else if x.kind = 4 then 4 else if x.kind = 5 then 5 else 7
def cCnt (x : ND) : Nat := if x.kind = 1 then (if x.bool then 21 else 20) else if x.kind = 2 then (if x.num < 0 then (-1 - x.num).toNat else x.num.toNat) else if x.kind = 3 then x.text.size else if x.kind = 4 then x.items.length else if x.kind = 5 then x.items.length else 22
/-- A text. -/
def cText (s : ByteArray) : List UInt8 := headL 3 s.size ++ s.data.toList
/-- The bytes of a node that is at most d deep. -/
def writeC : Nat → ND → List UInt8
 | 0, _ => []
 | d + 1, x => headL (cMaj x) (cCnt x) ++
  (if x.kind = 3 then x.text.data.toList
  else if x.kind = 4 then x.items.flatMap (writeC d)
  else if x.kind = 5 then (List.zipWith (fun s y => cText s ++ writeC d y) x.names x.items).flatten
  else [])
theorem writeC_same : ∀ {e d : Nat} {x : ND}, e ≤ d → validN e x = true → writeC d x = writeC e x
 | 0, _, _, _, h => by cases h
 | e + 1, 0, _, h, _ => by omega
 | e + 1, d + 1, x, hd, h => by
  rw [validN_succ, Bool.and_eq_true, List.all_eq_true] at h
  have hm : x.items.flatMap (writeC d) = x.items.flatMap (writeC e) := by
   rw [List.flatMap_def, List.flatMap_def, List.map_congr_left fun y hy => writeC_same (by omega) (h.2 y hy)]
  have hz : List.zipWith (fun s y => cText s ++ writeC d y) x.names x.items = List.zipWith (fun s y => cText s ++ writeC e y) x.names x.items := by
   have : ∀ (ns : List ByteArray) (its : List ND), (∀ y, y ∈ its → validN e y = true) → List.zipWith (fun s y => cText s ++ writeC d y) ns its = List.zipWith (fun s y => cText s ++ writeC e y) ns its := by
    intro ns
    induction ns with
    | nil => intro its _; rfl
    | cons s t ih =>
     intro its hi
     cases its with
     | nil => rfl
     | cons y u => rw [List.zipWith_cons_cons, List.zipWith_cons_cons, ih u (fun z hz => hi z (by simp [hz])), writeC_same (by omega) (hi y (by simp))]
   exact this _ _ h.2
  unfold writeC
  rw [hm, hz]
end Go.Proofs.YtmlmdidaldcoiaaGreatDoor
/- The first serialisation as data: quoted texts, texts of nodes, and a reader of them. No program. -/
namespace Go.Proofs.YtmlmdidaldcoiaaGreatDoor
open Go.Lib
set_option linter.unusedVariables false
set_option linter.unusedSimpArgs false

/-- A hexadecimal digit. -/
def hexD (v : UInt8) : UInt8 := if v < 10 then 48 + v else 87 + v
/-- How a byte stands in a quoted text. -/
def jEsc (c : UInt8) : List UInt8 :=
 if c = 34 ∨ c = 92 then [92, c]
 else if c = 8 then [92, 98] else if c = 9 then [92, 116] else if c = 10 then [92, 110] else if c = 12 then [92, 102] else if c = 13 then [92, 114]
 else if c < 32 then [92, 117, 48, 48, hexD (c / 16), hexD (c % 16)] else [c]
/-- A quoted text. -/
def quoteL (l : List UInt8) : List UInt8 := 34 :: (l.flatMap jEsc ++ [34])
/-- Parts with commas between them. -/
def sepL : List (List UInt8) → List UInt8
 | [] => []
 | [a] => a
 | a :: b :: t => a ++ 44 :: sepL (b :: t)
theorem sepL_snoc : ∀ (l : List (List UInt8)) (a : List UInt8), l ≠ [] → sepL (l ++ [a]) = sepL l ++ 44 :: a
 | [], _, h => absurd rfl h
 | [b], a, _ => rfl
 | b :: c :: t, a, _ => by
  show b ++ 44 :: sepL ((c :: t) ++ [a]) = (b ++ 44 :: sepL (c :: t)) ++ 44 :: a
  rw [sepL_snoc (c :: t) a (by simp)]; simp
/-- The text of a node that is at most d deep. -/
def writeN : Nat → ND → List UInt8
 | 0, _ => []
 | d + 1, x =>
  if x.kind = 1 then (if x.bool then [116, 114, 117, 101] else [102, 97, 108, 115, 101])
  else if x.kind = 2 then itoa x.num
  else if x.kind = 3 then quoteL x.text.data.toList
  else if x.kind = 4 then 91 :: (sepL (x.items.map (writeN d)) ++ [93])
  else if x.kind = 5 then 123 :: (sepL (List.zipWith (fun s y => quoteL s.data.toList ++ 58 :: writeN d y) x.names x.items) ++ [125])
  else [110, 117, 108, 108]
theorem writeN_same : ∀ {e d : Nat} {x : ND}, e ≤ d → validN e x = true → writeN d x = writeN e x
 | 0, _, _, _, h => by cases h
 | e + 1, 0, _, h, _ => by omega
 | e + 1, d + 1, x, hd, h => by
  rw [validN_succ, Bool.and_eq_true, List.all_eq_true] at h
  have hm : x.items.map (writeN d) = x.items.map (writeN e) := List.map_congr_left fun y hy => writeN_same (by omega) (h.2 y hy)
  have hz : List.zipWith (fun s y => quoteL s.data.toList ++ 58 :: writeN d y) x.names x.items = List.zipWith (fun s y => quoteL s.data.toList ++ 58 :: writeN e y) x.names x.items := by
   have : ∀ (ns : List ByteArray) (its : List ND), (∀ y, y ∈ its → validN e y = true) → List.zipWith (fun s y => quoteL s.data.toList ++ 58 :: writeN d y) ns its = List.zipWith (fun s y => quoteL s.data.toList ++ 58 :: writeN e y) ns its := by
    intro ns
    induction ns with
    | nil => intro its _; rfl
    | cons s t ih =>
     intro its hi
     cases its with
     | nil => rfl
     | cons y u =>
      rw [List.zipWith_cons_cons, List.zipWith_cons_cons, ih u (fun z hz => hi z (by simp [hz])), writeN_same (by omega) (hi y (by simp))]
   exact this _ _ h.2
  unfold writeN
  rw [hm, hz]
end Go.Proofs.YtmlmdidaldcoiaaGreatDoor
/- Reading the first serialisation, as data: what is written is read. No program. -/
namespace Go.Proofs.YtmlmdidaldcoiaaGreatDoor
open Go.Lib
set_option linter.unusedVariables false
set_option linter.unusedSimpArgs false

def isDig (c : UInt8) : Bool := decide (48 ≤ c) && decide (c ≤ 57)
/-- What decimal digits mean. -/
def decVal (l : List UInt8) : Nat := l.foldl (fun a c => a * 10 + (c.toNat - 48)) 0
theorem decVal_snoc (l : List UInt8) (c : UInt8) : decVal (l ++ [c]) = decVal l * 10 + (c.toNat - 48) := by unfold decVal; rw [List.foldl_append]; rfl
/-- Decimal digits, at most nineteen, and what follows them. -/
def digsP (neg : Bool) (t : List UInt8) : Option (ND × List UInt8) :=
 if (t.takeWhile isDig).length = 0 ∨ 19 < (t.takeWhile isDig).length then none
 else if (neg = false ∧ 9223372036854775807 < decVal (t.takeWhile isDig)) ∨ 9223372036854775808 < decVal (t.takeWhile isDig) then none
 else some (.mk 2 false (if neg then -(decVal (t.takeWhile isDig) : Int) else (decVal (t.takeWhile isDig) : Int)) ⟨#[]⟩ [] [], t.dropWhile isDig)
def numberP (t : List UInt8) : Option (ND × List UInt8) := if t.head? = some 45 then digsP true t.tail else digsP false t
theorem isDig_ne {c : UInt8} (h : isDig c = true) : 48 ≤ c.toNat ∧ c.toNat ≤ 57 := by
 unfold isDig at h
 rw [Bool.and_eq_true, decide_eq_true_eq, decide_eq_true_eq] at h
 exact ⟨UInt8.le_iff_toNat_le.1 h.1, UInt8.le_iff_toNat_le.1 h.2⟩
/-- What a valid node is, by its kind. -/
theorem kinds {d : Nat} {x : ND} (h : validN (d + 1) x = true) : x = nd0 ∨ (x = .mk 1 x.bool 0 ⟨#[]⟩ [] []) ∨ (x = .mk 2 false x.num ⟨#[]⟩ [] []) ∨ (x = .mk 3 false 0 x.text [] []) ∨ (x = .mk 4 false 0 ⟨#[]⟩ [] x.items) ∨ (x = .mk 5 false 0 ⟨#[]⟩ x.names x.items ∧ x.names.length = x.items.length) := by
 rw [validN_succ, Bool.and_eq_true] at h
 obtain ⟨hf, -⟩ := h
 unfold flatOk at hf
 simp only [Bool.and_eq_true, Bool.or_eq_true, decide_eq_true_eq, Bool.not_eq_true'] at hf
 obtain ⟨⟨⟨⟨⟨⟨⟨⟨⟨⟨⟨h0, h5⟩, hb⟩, hn⟩, ht⟩, hi⟩, hm⟩, -⟩, -⟩, hl⟩, -⟩, -⟩ := hf
 obtain ⟨k, b, n, t, ns, its⟩ := x
 simp only [ND.kind, ND.bool, ND.num, ND.text, ND.names, ND.items] at *
 have hcase : k = 0 ∨ k = 1 ∨ k = 2 ∨ k = 3 ∨ k = 4 ∨ k = 5 := by omega
 have e1 : k ≠ 1 → b = false := fun h => hb.resolve_right h
 have e2 : k ≠ 2 → n = 0 := fun h => hn.resolve_right h
 have e3 : k ≠ 3 → t = ⟨#[]⟩ := fun h => ht.resolve_right h
 have e4 : k < 4 → its = [] := fun h => List.length_eq_zero_iff.1 (hi.resolve_right (by omega))
 have e5 : k ≠ 5 → ns = [] := fun h => List.length_eq_zero_iff.1 (hm.resolve_right h)
 rcases hcase with rfl | rfl | rfl | rfl | rfl | rfl
 ·left; rw [e1 (by decide), e2 (by decide), e3 (by decide), e4 (by decide), e5 (by decide)]; rfl
 ·right; left; rw [e2 (by decide), e3 (by decide), e4 (by decide), e5 (by decide)]
 ·right; right; left; rw [e1 (by decide), e3 (by decide), e4 (by decide), e5 (by decide)]
 ·right; right; right; left; rw [e1 (by decide), e2 (by decide), e4 (by decide), e5 (by decide)]
 ·right; right; right; right; left; rw [e1 (by decide), e2 (by decide), e3 (by decide), e5 (by decide)]
 ·right; right; right; right; right; rw [e1 (by decide), e2 (by decide), e3 (by decide)]; exact ⟨rfl, hl.resolve_left (by decide)⟩
end Go.Proofs.YtmlmdidaldcoiaaGreatDoor
/- What is written is read again; different nodes have different texts; how long texts are. No program. -/
namespace Go.Proofs.YtmlmdidaldcoiaaGreatDoor
open Go.Lib
set_option linter.unusedVariables false
set_option linter.unusedSimpArgs false

theorem validN_parts {d : Nat} {x : ND} (h : validN (d + 1) x = true) : (∀ y, y ∈ x.items → validN d y = true) ∧ x.items.length ≤ 256 ∧ textOk x.text = true ∧ ∀ s, s ∈ x.names → textOk s = true := by
 rw [validN_succ, Bool.and_eq_true, List.all_eq_true] at h
 obtain ⟨hf, hi⟩ := h
 unfold flatOk at hf
 simp only [Bool.and_eq_true, Bool.or_eq_true, decide_eq_true_eq, List.all_eq_true] at hf
 obtain ⟨⟨⟨⟨⟨-, h1⟩, h2⟩, -⟩, h3⟩, -⟩ := hf
 exact ⟨hi, h2, h1, h3⟩
theorem numsB_parts {d : Nat} {x : ND} (h : numsB (d + 1) x = true) : wideI x.num = true ∧ ∀ y, y ∈ x.items → numsB d y = true := by
 rw [numsB_succ, Bool.and_eq_true, List.all_eq_true] at h
 exact h
theorem writeN_4 (d : Nat) (its : List ND) : writeN (d + 1) (.mk 4 false 0 ⟨#[]⟩ [] its) = 91 :: (sepL (its.map (writeN d)) ++ [93]) := rfl
theorem writeN_5 (d : Nat) (ns : List ByteArray) (its : List ND) : writeN (d + 1) (.mk 5 false 0 ⟨#[]⟩ ns its) = 123 :: (sepL (List.zipWith (fun s y => quoteL s.data.toList ++ 58 :: writeN d y) ns its) ++ [125]) := rfl
theorem jEsc_len (c : UInt8) : (jEsc c).length ≤ 6 := by
 unfold jEsc
 repeat' split
 all_goals simp
theorem flatEsc_len : ∀ l : List UInt8, (l.flatMap jEsc).length ≤ 6 * l.length
 | [] => Nat.le_refl _
 | c :: r => by
  have h1 := jEsc_len c
  have h2 := flatEsc_len r
  rw [List.flatMap_cons, List.length_append, List.length_cons]
  omega
theorem quoteL_len (l : List UInt8) : (quoteL l).length ≤ 6 * l.length + 2 := by
 unfold quoteL
 rw [List.length_cons, List.length_append, List.length_singleton]
 have := flatEsc_len l
 omega
theorem textOk_size {s : ByteArray} (h : textOk s = true) : s.data.toList.length ≤ 65536 := by
 unfold textOk at h
 simp only [Bool.and_eq_true, decide_eq_true_eq] at h
 have : s.data.toList.length = s.size := by rw [Array.length_toList]; rfl
 omega
end Go.Proofs.YtmlmdidaldcoiaaGreatDoor
/- The second serialisation: different nodes have different bytes, and how many bytes there are at most. No program. -/
namespace Go.Proofs.YtmlmdidaldcoiaaGreatDoor
set_option linter.unusedVariables false
set_option linter.unusedSimpArgs false

theorem cMaj_lt (x : ND) : cMaj x < 8 := by
 unfold cMaj
 (repeat' split) <;> omega
theorem cCnt_lt {d : Nat} {x : ND} (h : validN (d + 1) x = true) (hn : numsB (d + 1) x = true) : cCnt x < 18446744073709551616 := by
 obtain ⟨hi, hl, htx, hns⟩ := validN_parts h
 obtain ⟨hw, hni⟩ := numsB_parts hn
 have h1 := textOk_size htx
 have h2 : x.text.data.toList.length = x.text.size := by rw [Array.length_toList]; rfl
 unfold wideI at hw
 rw [Bool.and_eq_true, decide_eq_true_eq, decide_eq_true_eq] at hw
 unfold cCnt
 (repeat' split) <;> omega
/-- What stands behind a node's head. -/
def bodyC (d : Nat) (x : ND) : List UInt8 :=
 if x.kind = 3 then x.text.data.toList
 else if x.kind = 4 then x.items.flatMap (writeC d)
 else if x.kind = 5 then (List.zipWith (fun s y => cText s ++ writeC d y) x.names x.items).flatten
 else []
theorem writeC_succ (d : Nat) (x : ND) : writeC (d + 1) x = headL (cMaj x) (cCnt x) ++ bodyC d x := rfl
theorem data_inj {a b : ByteArray} (h : a.data.toList = b.data.toList) : a = b := ByteArray.ext (Array.toList_inj.1 h)
theorem textOk_le {s : ByteArray} (h : textOk s = true) : s.size ≤ 65536 := by
 have h1 := textOk_size h
 have h2 : s.data.toList.length = s.size := by rw [Array.length_toList]; rfl
 omega
theorem headL_cost {m : Nat} (n : Nat) : (headL m n).length ≤ 9 := by rw [headL_length]; have := headK_le n; omega
theorem cText_cost (s : ByteArray) : (cText s).length ≤ 6 * s.size + 8 := by
 have h2 : s.data.toList.length = s.size := by rw [Array.length_toList]; rfl
 unfold cText
 rw [List.length_append, headL_length, h2]
 unfold headK
 (repeat' split) <;> omega
theorem flatC_sum {W : ND → List UInt8} {c : ND → Nat} : ∀ (its : List ND), (∀ y, y ∈ its → (W y).length ≤ c y) → (its.flatMap W).length ≤ (its.map fun y => c y + 1).sum
 | [], _ => Nat.le_refl _
 | y :: ys, h => by
  have ih := flatC_sum ys (fun z hz => h z (by simp [hz]))
  have h3 := h y (by simp)
  rw [List.flatMap_cons, List.length_append, List.map_cons, List.sum_cons]
  omega
theorem zipC_sum {W : ND → List UInt8} {c : ND → Nat} : ∀ (ns : List ByteArray) (its : List ND), (∀ y, y ∈ its → (W y).length ≤ c y) → (List.zipWith (fun s y => cText s ++ W y) ns its).flatten.length ≤ (ns.map fun s => 6 * s.size + 8).sum + (its.map fun y => c y + 1).sum
 | [], _, _ => by simp
 | _ :: _, [], _ => by simp
 | s :: ss, y :: ys, h => by
  have ih := zipC_sum ss ys (fun z hz => h z (by simp [hz]))
  have h1 := cText_cost s
  have h3 := h y (by simp)
  rw [List.zipWith_cons_cons, List.flatten_cons, List.length_append, List.length_append, List.map_cons, List.sum_cons, List.map_cons, List.sum_cons]
  omega
theorem writeC_cost : ∀ (d : Nat) (x : ND), validN d x = true → (writeC d x).length ≤ costN d x
 | 0, _, h => by cases h
 | d + 1, x, h => by
  obtain ⟨hi, hl, htx, hns⟩ := validN_parts h
  have ih : ∀ y, y ∈ x.items → (writeC d y).length ≤ costN d y := fun y hy => writeC_cost d y (hi y hy)
  have hts : x.text.data.toList.length = x.text.size := by rw [Array.length_toList]; rfl
  have h9 := headL_cost (m := cMaj x) (cCnt x)
  have h1 := flatC_sum x.items ih
  have h2 := zipC_sum (W := writeC d) x.names x.items ih
  rw [costN_succ, writeC_succ, List.length_append]
  unfold bodyC
  split
  ·omega
  ·split
   ·omega
   ·split
    ·omega
    ·simp; omega
end Go.Proofs.YtmlmdidaldcoiaaGreatDoor
/- The third serialisation as data: heads, the bytes of nodes, and that nothing else has them. No program. -/
namespace Go.Proofs.YtmlmdidaldcoiaaGreatDoor
set_option linter.unusedVariables false
set_option linter.unusedSimpArgs false

/-- A number's lowest 64 bits. -/
def u64N (z : Int) : Nat := (z % 18446744073709551616).toNat
/-- The first byte of a number's bytes, and how many follow. -/
def numH (z : Int) : Nat × Nat := if -32 ≤ z ∧ z < 128 then (u64N z % 256, 0) else if 0 < z then (if z < 256 then (204, 1) else if z < 65536 then (205, 2) else if z < 4294967296 then (206, 4) else (207, 8)) else if -128 ≤ z then (208, 1) else if -32768 ≤ z then (209, 2) else if -2147483648 ≤ z then (210, 4) else (211, 8)
def txtH (n : Nat) : Nat × Nat := if n < 32 then (160 + n, 0) else if n < 256 then (217, 1) else if n < 65536 then (218, 2) else (219, 4)
def lstH (n : Nat) : Nat × Nat := if n < 16 then (144 + n, 0) else (220, 2)
def mapH (n : Nat) : Nat × Nat := if n < 16 then (128 + n, 0) else (222, 2)
def headP (h : Nat × Nat) (v : Nat) : List UInt8 := UInt8.ofNat h.1 :: bigL v h.2
/-- The same of a node; its value; what that means. -/
def pHd (x : ND) : Nat × Nat := if x.kind = 1 then (if x.bool then (195, 0) else (194, 0)) else if x.kind = 2 then numH x.num else if x.kind = 3 then txtH x.text.size else if x.kind = 4 then lstH x.items.length else if x.kind = 5 then mapH x.items.length else (192, 0)
def pVal (x : ND) : Nat := if x.kind = 2 then u64N x.num else if x.kind = 3 then x.text.size else if x.kind = 4 then x.items.length else if x.kind = 5 then x.items.length else 0
def pPay (x : ND) : Int := if x.kind = 1 then (if x.bool then 1 else 0) else if x.kind = 2 then x.num else if x.kind = 3 then x.text.size else if x.kind = 4 then x.items.length else if x.kind = 5 then x.items.length else 0
/-- A text. -/
def pText (s : ByteArray) : List UInt8 := headP (txtH s.size) s.size ++ s.data.toList
/-- What stands behind a node's head. -/
def bodyM (W : ND → List UInt8) (x : ND) : List UInt8 :=
 if x.kind = 3 then x.text.data.toList
 else if x.kind = 4 then x.items.flatMap W
 else if x.kind = 5 then (List.zipWith (fun s y => pText s ++ W y) x.names x.items).flatten
 else []
/-- The bytes of a node that is at most d deep. -/
def writeP : Nat → ND → List UInt8
 | 0, _ => []
 | d + 1, x => headP (pHd x) (pVal x) ++ bodyM (writeP d) x
theorem writeP_succ (d : Nat) (x : ND) : writeP (d + 1) x = headP (pHd x) (pVal x) ++ bodyM (writeP d) x := rfl
end Go.Proofs.YtmlmdidaldcoiaaGreatDoor
