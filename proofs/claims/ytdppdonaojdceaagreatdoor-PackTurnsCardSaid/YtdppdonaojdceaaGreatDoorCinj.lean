/- The second serialisation as data: heads, the bytes of nodes, and that nothing else has them. No program. Then: The second serialisation: different nodes have different bytes, and how many bytes there are at most. No program. -/
import Derived.Test.YtdppdonaojdceaaGreatDoorBset
import Derived.Test.YtdppdonaojdceaaGreatDoorJback
namespace Go.Proofs.YtdppdonaojdceaaGreatDoor
set_option linter.unusedVariables false
set_option linter.unusedSimpArgs false

/-- A number in k bytes, the highest first. -/
def bigL (n : Nat) : Nat → List UInt8
 | 0 => []
 | k + 1 => UInt8.ofNat (n / 256 ^ k) :: bigL n k
theorem bigL_length (n : Nat) : ∀ k, (bigL n k).length = k
 | 0 => rfl
 | k + 1 => by rw [bigL, List.length_cons, bigL_length n k]
/-- What bytes mean, the highest first. -/
def bigV (l : List UInt8) : Nat := l.foldl (fun a c => a * 256 + c.toNat) 0
theorem bigV0 : ∀ (l : List UInt8) (a : Nat), l.foldl (fun a c => a * 256 + c.toNat) a = a * 256 ^ l.length + bigV l
 | [], a => by simp [bigV]
 | c :: t, a => by
  unfold bigV
  rw [List.foldl_cons, List.foldl_cons, bigV0 t (a * 256 + c.toNat), bigV0 t (0 * 256 + c.toNat), List.length_cons, Nat.pow_succ, Nat.zero_mul, Nat.zero_add, Nat.add_mul, Nat.mul_assoc, Nat.mul_comm 256 (256 ^ t.length)]
  omega
theorem bigV_cons (c : UInt8) (t : List UInt8) : bigV (c :: t) = c.toNat * 256 ^ t.length + bigV t := by
 have := bigV0 t c.toNat
 unfold bigV at this ⊢
 rw [List.foldl_cons, Nat.zero_mul, Nat.zero_add]
 exact this
theorem bigV_bigL (n : Nat) : ∀ k, bigV (bigL n k) = n % 256 ^ k
 | 0 => by rw [Nat.pow_zero, Nat.mod_one]; rfl
 | k + 1 => by
  have h : n % (256 ^ k * 256) = n % 256 ^ k + 256 ^ k * (n / 256 ^ k % 256) := Nat.mod_mul
  rw [bigL, bigV_cons, bigL_length, bigV_bigL n k, UInt8.toNat_ofNat', show 256 ^ (k + 1) = 256 ^ k * 256 from Nat.pow_succ .., h, Nat.mul_comm]
  show 256 ^ k * (n / 256 ^ k % 256) + _ = _
  omega
theorem bigL_back {n k : Nat} (h : n < 256 ^ k) : bigV (bigL n k) = n := by rw [bigV_bigL, Nat.mod_eq_of_lt h]
theorem bigL_inj {n m k : Nat} (hn : n < 256 ^ k) (hm : m < 256 ^ k) (h : bigL n k = bigL m k) : n = m := by
 rw [← bigL_back hn, ← bigL_back hm, h]
/-- How many bytes follow a head's first one, and what its five lowest bits are. -/
def headK (n : Nat) : Nat := if n < 24 then 0 else if n < 256 then 1 else if n < 65536 then 2 else if n < 4294967296 then 4 else 8
def headV (n : Nat) : Nat := if n < 24 then n else if n < 256 then 24 else if n < 65536 then 25 else if n < 4294967296 then 26 else 27
/-- A head. -/
def headL (m n : Nat) : List UInt8 := UInt8.ofNat (32 * m + headV n) :: bigL n (headK n)
theorem headL_length (m n : Nat) : (headL m n).length = headK n + 1 := by rw [headL, List.length_cons, bigL_length]
theorem headK_le (n : Nat) : headK n ≤ 8 := by
 unfold headK
 (repeat' split) <;> omega
theorem headV_lt (n : Nat) : headV n < 32 := by
 unfold headV
 (repeat' split) <;> omega
theorem headV_K {n m : Nat} (h : headV n = headV m) : headK n = headK m ∧ (headK n = 0 → n = m) := by
 unfold headV at h
 unfold headK
 by_cases a1 : n < 24
 ·rw [if_pos a1] at h
  rw [if_pos a1]
  by_cases b1 : m < 24
  ·rw [if_pos b1] at h ⊢; exact ⟨rfl, fun _ => h⟩
  ·rw [if_neg b1] at h
   exfalso
   revert h
   repeat' split
   all_goals omega
 ·rw [if_neg a1] at h
  rw [if_neg a1]
  by_cases b1 : m < 24
  ·rw [if_pos b1] at h
   exfalso
   revert h
   repeat' split
   all_goals omega
  ·rw [if_neg b1] at h
   rw [if_neg b1]
   revert h
   repeat' split
   all_goals (intro h; first | (exfalso; omega) | exact ⟨rfl, fun h => absurd h (by decide)⟩)
theorem headK_fits {n : Nat} (h : n < 18446744073709551616) : headK n = 0 ∨ n < 256 ^ headK n := by
 unfold headK
 repeat' split
 all_goals first | exact .inl rfl | (right; simp only [Nat.reducePow]; omega)
/-- A head tells its major type and its number, and what follows. -/
theorem headL_inj {m n m' n' : Nat} {t t' : List UInt8} (hm : m < 8) (hm' : m' < 8) (hn : n < 18446744073709551616) (hn' : n' < 18446744073709551616) (h : headL m n ++ t = headL m' n' ++ t') : m = m' ∧ n = n' ∧ t = t' := by
 unfold headL at h
 rw [List.cons_append, List.cons_append] at h
 obtain ⟨h1, h2⟩ := List.cons.inj h
 have h1 := congrArg UInt8.toNat h1
 rw [UInt8.toNat_ofNat', UInt8.toNat_ofNat'] at h1
 have v1 := headV_lt n
 have v2 := headV_lt n'
 have hmm : m = m' := by omega
 have hvv : headV n = headV n' := by omega
 obtain ⟨hk, h0⟩ := headV_K hvv
 rw [← hk] at h2
 obtain ⟨e1, e2⟩ := List.append_inj h2 (by rw [bigL_length, bigL_length])
 refine ⟨hmm, ?_, e2⟩
 rcases headK_fits hn with h | h
 ·exact h0 h
 ·rcases headK_fits hn' with h' | h'
  ·exact h0 (hk.trans h')
  ·rw [← hk] at h'
   exact bigL_inj h h' e1
/-- The major type and the number of a node's head. -/
def cMaj (x : ND) : Nat := if x.kind = 1 then 7 else if x.kind = 2 then (if x.num < 0 then 1 else 0) else if x.kind = 3 then 3 else if x.kind = 4 then 4 else if x.kind = 5 then 5 else 7
def cCnt (x : ND) : Nat := if x.kind = 1 then (if x.bool then 21 else 20) else if x.kind = 2 then (if x.num < 0 then (-1 - x.num).toNat else x.num.toNat) else if x.kind = 3 then x.text.size else if x.kind = 4 then x.items.length else if x.kind = 5 then x.items.length else 22
/-- A text. -/
def cText (s : ByteArray) : List UInt8 := headL 3 s.size ++ s.data.toList
/-- The bytes of a node that is at most d deep. -/
def writeC : Nat → ND → List UInt8
 | 0, _ => []
 | d + 1, x => headL (cMaj x) (cCnt x) ++
  (if x.kind = 3 then x.text.data.toList
  else if x.kind = 4 then x.items.flatMap (writeC d)
  else if x.kind = 5 then (List.zipWith (fun s y => cText s ++ writeC d y) x.names x.items).flatten
  else [])
theorem writeC_same : ∀ {e d : Nat} {x : ND}, e ≤ d → validN e x = true → writeC d x = writeC e x
 | 0, _, _, _, h => by cases h
 | e + 1, 0, _, h, _ => by omega
 | e + 1, d + 1, x, hd, h => by
  rw [validN_succ, Bool.and_eq_true, List.all_eq_true] at h
  have hm : x.items.flatMap (writeC d) = x.items.flatMap (writeC e) := by
   rw [List.flatMap_def, List.flatMap_def, List.map_congr_left fun y hy => writeC_same (by omega) (h.2 y hy)]
  have hz : List.zipWith (fun s y => cText s ++ writeC d y) x.names x.items = List.zipWith (fun s y => cText s ++ writeC e y) x.names x.items := by
   have : ∀ (ns : List ByteArray) (its : List ND), (∀ y, y ∈ its → validN e y = true) → List.zipWith (fun s y => cText s ++ writeC d y) ns its = List.zipWith (fun s y => cText s ++ writeC e y) ns its := by
    intro ns
    induction ns with
    | nil => intro its _; rfl
    | cons s t ih =>
     intro its hi
     cases its with
     | nil => rfl
     | cons y u => rw [List.zipWith_cons_cons, List.zipWith_cons_cons, ih u (fun z hz => hi z (by simp [hz])), writeC_same (by omega) (hi y (by simp))]
   exact this _ _ h.2
  unfold writeC
  rw [hm, hz]
end Go.Proofs.YtdppdonaojdceaaGreatDoor

namespace Go.Proofs.YtdppdonaojdceaaGreatDoor
set_option linter.unusedVariables false
set_option linter.unusedSimpArgs false

theorem cMaj_lt (x : ND) : cMaj x < 8 := by
 unfold cMaj
 (repeat' split) <;> omega
theorem cCnt_lt {d : Nat} {x : ND} (h : validN (d + 1) x = true) (hn : numsB (d + 1) x = true) : cCnt x < 18446744073709551616 := by
 obtain ⟨hi, hl, htx, hns⟩ := validN_parts h
 obtain ⟨hw, hni⟩ := numsB_parts hn
 have h1 := textOk_size htx
 have h2 : x.text.data.toList.length = x.text.size := by rw [Array.length_toList]; rfl
 unfold wideI at hw
 rw [Bool.and_eq_true, decide_eq_true_eq, decide_eq_true_eq] at hw
 unfold cCnt
 (repeat' split) <;> omega
/-- What stands behind a node's head. -/
def bodyC (d : Nat) (x : ND) : List UInt8 :=
 if x.kind = 3 then x.text.data.toList
 else if x.kind = 4 then x.items.flatMap (writeC d)
 else if x.kind = 5 then (List.zipWith (fun s y => cText s ++ writeC d y) x.names x.items).flatten
 else []
theorem writeC_succ (d : Nat) (x : ND) : writeC (d + 1) x = headL (cMaj x) (cCnt x) ++ bodyC d x := rfl
theorem data_inj {a b : ByteArray} (h : a.data.toList = b.data.toList) : a = b := ByteArray.ext (Array.toList_inj.1 h)
theorem cText_inj {a b : ByteArray} {t t' : List UInt8} (ha : a.size ≤ 65536) (hb : b.size ≤ 65536) (h : cText a ++ t = cText b ++ t') : a = b ∧ t = t' := by
 unfold cText at h
 rw [List.append_assoc, List.append_assoc] at h
 obtain ⟨-, h1, h2⟩ := headL_inj (by decide) (by decide) (by omega) (by omega) h
 obtain ⟨h3, h4⟩ := List.append_inj h2 (by rw [Array.length_toList, Array.length_toList]; exact h1)
 exact ⟨data_inj h3, h4⟩
theorem flat_inj {W : ND → List UInt8} : ∀ (xs ys : List ND) (t t' : List UInt8), xs.length = ys.length → (∀ x y t t', x ∈ xs → y ∈ ys → W x ++ t = W y ++ t' → x = y ∧ t = t') → xs.flatMap W ++ t = ys.flatMap W ++ t' → xs = ys ∧ t = t'
 | [], [], t, t', _, _, h => ⟨rfl, h⟩
 | [], _ :: _, _, _, h, _, _ => by simp at h
 | _ :: _, [], _, _, h, _, _ => by simp at h
 | x :: xs, y :: ys, t, t', hl, hw, h => by
  rw [List.flatMap_cons, List.flatMap_cons, List.append_assoc, List.append_assoc] at h
  obtain ⟨rfl, h2⟩ := hw x y _ _ (by simp) (by simp) h
  obtain ⟨rfl, h3⟩ := flat_inj xs ys t t' (by simpa using hl) (fun a b u u' ha hb => hw a b u u' (by simp [ha]) (by simp [hb])) h2
  exact ⟨rfl, h3⟩
theorem zipC_inj {W : ND → List UInt8} : ∀ (ns ms : List ByteArray) (xs ys : List ND) (t t' : List UInt8), ns.length = xs.length → ms.length = ys.length → xs.length = ys.length → (∀ s, s ∈ ns → s.size ≤ 65536) → (∀ s, s ∈ ms → s.size ≤ 65536) → (∀ x y t t', x ∈ xs → y ∈ ys → W x ++ t = W y ++ t' → x = y ∧ t = t') →
  (List.zipWith (fun s y => cText s ++ W y) ns xs).flatten ++ t = (List.zipWith (fun s y => cText s ++ W y) ms ys).flatten ++ t' → ns = ms ∧ xs = ys ∧ t = t'
 | [], [], [], [], t, t', _, _, _, _, _, _, h => ⟨rfl, rfl, h⟩
 | n :: ns, m :: ms, x :: xs, y :: ys, t, t', h1, h2, h3, hn, hm, hw, h => by
  rw [List.zipWith_cons_cons, List.zipWith_cons_cons, List.flatten_cons, List.flatten_cons, List.append_assoc, List.append_assoc, List.append_assoc, List.append_assoc] at h
  obtain ⟨rfl, h4⟩ := cText_inj (hn n (by simp)) (hm m (by simp)) h
  obtain ⟨rfl, h5⟩ := hw x y _ _ (by simp) (by simp) h4
  obtain ⟨rfl, rfl, h6⟩ := zipC_inj ns ms xs ys t t' (by simpa using h1) (by simpa using h2) (by simpa using h3) (fun s hs => hn s (by simp [hs])) (fun s hs => hm s (by simp [hs])) (fun a b u u' ha hb => hw a b u u' (by simp [ha]) (by simp [hb])) h5
  exact ⟨rfl, rfl, h6⟩
 | [], _, _ :: _, _, _, _, h, _, _, _, _, _, _ => by simp at h
 | _ :: _, _, [], _, _, _, h, _, _, _, _, _, _ => by simp at h
 | _, [], _, _ :: _, _, _, _, h, _, _, _, _, _ => by simp at h
 | _, _ :: _, _, [], _, _, _, h, _, _, _, _, _ => by simp at h
 | [], _ :: _, [], _ :: _, _, _, _, _, h, _, _, _, _ => by simp at h
theorem textOk_le {s : ByteArray} (h : textOk s = true) : s.size ≤ 65536 := by
 have h1 := textOk_size h
 have h2 : s.data.toList.length = s.size := by rw [Array.length_toList]; rfl
 omega
theorem writeC_app_inj : ∀ (d : Nat) (x y : ND) (t t' : List UInt8), validN d x = true → numsB d x = true → validN d y = true → numsB d y = true → writeC d x ++ t = writeC d y ++ t' → x = y ∧ t = t'
 | 0, _, _, _, _, h, _, _, _, _ => by cases h
 | d + 1, x, y, t, t', hx, nx, hy, ny, h => by
  rw [writeC_succ, writeC_succ, List.append_assoc, List.append_assoc] at h
  obtain ⟨hm, hc, hr⟩ := headL_inj (cMaj_lt x) (cMaj_lt y) (cCnt_lt hx nx) (cCnt_lt hy ny) h
  obtain ⟨ix, lx, tx, sx⟩ := validN_parts hx
  obtain ⟨iy, ly, ty, sy⟩ := validN_parts hy
  obtain ⟨wx, mx⟩ := numsB_parts nx
  obtain ⟨wy, my⟩ := numsB_parts ny
  have ih : ∀ a b u u', a ∈ x.items → b ∈ y.items → writeC d a ++ u = writeC d b ++ u' → a = b ∧ u = u' := fun a b u u' ha hb => writeC_app_inj d a b u u' (ix a ha) (mx a ha) (iy b hb) (my b hb)
  have kx := kinds hx
  have ky := kinds hy
  obtain ⟨k, b, n, tt, ns, its⟩ := x
  obtain ⟨k', b', n', tt', ns', its'⟩ := y
  unfold nd0 at kx ky
  simp only [ND.mk.injEq, ND.kind, ND.bool, ND.num, ND.text, ND.names, ND.items] at *
  unfold cMaj at hm
  unfold cCnt at hc
  unfold bodyC at hr
  simp only [ND.kind, ND.bool, ND.num, ND.text, ND.names, ND.items] at hm hc hr
  rcases kx with ⟨rfl, rfl, rfl, rfl, rfl, rfl⟩ | ⟨rfl, -, rfl, rfl, rfl, rfl⟩ | ⟨rfl, rfl, -, rfl, rfl, rfl⟩ | ⟨rfl, rfl, rfl, -, rfl, rfl⟩ | ⟨rfl, rfl, rfl, rfl, rfl, -⟩ | ⟨⟨rfl, rfl, rfl, rfl, -, -⟩, hlx⟩ <;>
  rcases ky with ⟨rfl, rfl, rfl, rfl, rfl, rfl⟩ | ⟨rfl, -, rfl, rfl, rfl, rfl⟩ | ⟨rfl, rfl, -, rfl, rfl, rfl⟩ | ⟨rfl, rfl, rfl, -, rfl, rfl⟩ | ⟨rfl, rfl, rfl, rfl, rfl, -⟩ | ⟨⟨rfl, rfl, rfl, rfl, -, -⟩, hly⟩ <;>
  simp at hm hc hr <;> first
   | (exfalso; by_cases hq : n' < 0 <;> simp [hq] at hm; done)
   | (exfalso; by_cases hq : n < 0 <;> simp [hq] at hm; done)
   | (exfalso; revert hc; cases b' <;> simp; done)
   | (exfalso; revert hc; cases b <;> simp; done)
   | (exact ⟨⟨rfl, rfl, rfl, rfl, rfl, rfl⟩, hr⟩)
   | (refine ⟨⟨rfl, ?_, rfl, rfl, rfl, rfl⟩, hr⟩; revert hc; cases b <;> cases b' <;> simp)
   | (refine ⟨⟨rfl, rfl, ?_, rfl, rfl, rfl⟩, hr⟩; by_cases hq : n < 0 <;> by_cases hq' : n' < 0 <;> simp [hq, hq'] at hm hc <;> omega)
   | (obtain ⟨h3, h4⟩ := List.append_inj hr (by rw [Array.length_toList, Array.length_toList]; exact hc); exact ⟨⟨rfl, rfl, rfl, data_inj h3, rfl, rfl⟩, h4⟩)
   | (obtain ⟨h3, h4⟩ := flat_inj its its' t t' hc ih hr; exact ⟨⟨rfl, rfl, rfl, rfl, rfl, h3⟩, h4⟩)
   | (obtain ⟨h3, h4, h5⟩ := zipC_inj ns ns' its its' t t' hlx hly hc (fun s hs => textOk_le (sx s hs)) (fun s hs => textOk_le (sy s hs)) ih hr; exact ⟨⟨rfl, rfl, rfl, rfl, h3, h4⟩, h5⟩)
theorem writeC_inj {d : Nat} {x y : ND} (hx : validW d x = true) (hy : validW d y = true) (h : writeC d x = writeC d y) : x = y :=
 (writeC_app_inj d x y [] [] (validW_valid hx) (validW_nums hx) (validW_valid hy) (validW_nums hy) (by rw [h])).1
theorem headL_cost {m : Nat} (n : Nat) : (headL m n).length ≤ 9 := by rw [headL_length]; have := headK_le n; omega
theorem cText_cost (s : ByteArray) : (cText s).length ≤ 6 * s.size + 8 := by
 have h2 : s.data.toList.length = s.size := by rw [Array.length_toList]; rfl
 unfold cText
 rw [List.length_append, headL_length, h2]
 unfold headK
 (repeat' split) <;> omega
theorem flatC_sum {W : ND → List UInt8} {c : ND → Nat} : ∀ (its : List ND), (∀ y, y ∈ its → (W y).length ≤ c y) → (its.flatMap W).length ≤ (its.map fun y => c y + 1).sum
 | [], _ => Nat.le_refl _
 | y :: ys, h => by
  have ih := flatC_sum ys (fun z hz => h z (by simp [hz]))
  have h3 := h y (by simp)
  rw [List.flatMap_cons, List.length_append, List.map_cons, List.sum_cons]
  omega
theorem zipC_sum {W : ND → List UInt8} {c : ND → Nat} : ∀ (ns : List ByteArray) (its : List ND), (∀ y, y ∈ its → (W y).length ≤ c y) → (List.zipWith (fun s y => cText s ++ W y) ns its).flatten.length ≤ (ns.map fun s => 6 * s.size + 8).sum + (its.map fun y => c y + 1).sum
 | [], _, _ => by simp
 | _ :: _, [], _ => by simp
 | s :: ss, y :: ys, h => by
  have ih := zipC_sum ss ys (fun z hz => h z (by simp [hz]))
  have h1 := cText_cost s
  have h3 := h y (by simp)
  rw [List.zipWith_cons_cons, List.flatten_cons, List.length_append, List.length_append, List.map_cons, List.sum_cons, List.map_cons, List.sum_cons]
  omega
theorem writeC_cost : ∀ (d : Nat) (x : ND), validN d x = true → (writeC d x).length ≤ costN d x
 | 0, _, h => by cases h
 | d + 1, x, h => by
  obtain ⟨hi, hl, htx, hns⟩ := validN_parts h
  have ih : ∀ y, y ∈ x.items → (writeC d y).length ≤ costN d y := fun y hy => writeC_cost d y (hi y hy)
  have hts : x.text.data.toList.length = x.text.size := by rw [Array.length_toList]; rfl
  have h9 := headL_cost (m := cMaj x) (cCnt x)
  have h1 := flatC_sum x.items ih
  have h2 := zipC_sum (W := writeC d) x.names x.items ih
  rw [costN_succ, writeC_succ, List.length_append]
  unfold bodyC
  split
  ·omega
  ·split
   ·omega
   ·split
    ·omega
    ·simp; omega
end Go.Proofs.YtdppdonaojdceaaGreatDoor
