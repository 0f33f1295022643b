/- One-time signatures as data: steps, walks along chains, the values of all chains, digits and their complement; of two different lists of digits each has one that is less. -/
import Derived.Test.YtpophimnoakinaaDoorSha
namespace Go.Proofs.YtpophimnoakinaaDoor
open Go
set_option linter.unusedVariables false
set_option linter.unusedSimpArgs false

/-- The short sum. -/
def shB (s : ByteArray) : ByteArray := (⟨(sumL s.data.toList).toArray⟩ : ByteArray).extract 0 16
theorem shB_size (s : ByteArray) : (shB s).size = 16 := by
  have h : (⟨(sumL s.data.toList).toArray⟩ : ByteArray).size = 32 := by
    show (sumL s.data.toList).toArray.size = 32
    rw [List.size_toArray, sumL_length]
  unfold shB
  rw [ByteArray.size_extract, h]
  rfl
/-- Two numbers as bytes. -/
def twoB (a b : Int) : ByteArray := ⟨#[byteI a, byteI b]⟩
theorem twoB_size (a b : Int) : (twoB a b).size = 2 := rfl
def stB (v : ByteArray) (a b : Int) : ByteArray := shB (v ++ twoB a b)
theorem stB_size (v : ByteArray) (a b : Int) : (stB v a b).size = 16 := shB_size _
/-- What n steps from the position f of the chain c lead to. -/
def wkB (v : ByteArray) (c f : Int) : Nat → ByteArray
  | 0 => v
  | n + 1 => stB (wkB v c f n) c (f + n)
theorem wkB_size (v : ByteArray) (c f : Int) (n : Nat) (h : v.size = 16) : (wkB v c f n).size = 16 := by
  cases n with
  | zero => exact h
  | succ n => exact stB_size _ _ _
theorem wkB_add (v : ByteArray) (c f : Int) (n : Nat) : ∀ m, wkB (wkB v c f n) c (f + n) m = wkB v c f (n + m)
  | 0 => rfl
  | m + 1 => by
    show stB (wkB (wkB v c f n) c (f + n) m) c (f + n + m) = stB (wkB v c f (n + m)) c (f + (n + m : Nat))
    rw [wkB_add v c f n m, Int.natCast_add, Int.add_assoc]
/-- The values of the first n chains, one after the other. -/
def catB (g : Nat → ByteArray) : Nat → ByteArray
  | 0 => ByteArray.empty
  | n + 1 => catB g n ++ g n
theorem catB_size (g : Nat → ByteArray) (h : ∀ i, (g i).size = 16) : ∀ n, (catB g n).size = 16 * n
  | 0 => rfl
  | n + 1 => by
    show (catB g n ++ g n).size = _
    rw [ByteArray.size_append, catB_size g h n, h n]
    omega
theorem catB_ext {g g' : Nat → ByteArray} : ∀ n, (∀ i, i < n → g i = g' i) → catB g n = catB g' n
  | 0, _ => rfl
  | n + 1, h => by
    show catB g n ++ g n = catB g' n ++ g' n
    rw [catB_ext n (fun i hi => h i (by omega)), h n (by omega)]
theorem bytes_ext {a b : ByteArray} (h : a.data.toList = b.data.toList) : a = b := by
  cases a; cases b
  simp only [ByteArray.mk.injEq]
  exact Array.toList_inj.1 h
theorem toList_extract (s : ByteArray) (i j : Nat) : (s.extract i j).data.toList = (s.data.toList.take j).drop i := by
  rw [ByteArray.data_extract, Array.toList_extract, List.extract, List.take_drop]
  rcases Nat.lt_or_ge i j with h | h
  · rw [show i + (j - i) = j by omega]
  · rw [show j - i = 0 by omega, Nat.add_zero, List.drop_of_length_le (by rw [List.length_take]; omega), List.drop_of_length_le (by rw [List.length_take]; omega)]
/-- The part of the i-th chain. -/
theorem catB_part (g : Nat → ByteArray) (h : ∀ i, (g i).size = 16) (i : Nat) : ∀ n, i < n → (catB g n).extract (16 * i) (16 * i + 16) = g i
  | 0, hi => by omega
  | n + 1, hi => by
    apply bytes_ext
    rw [toList_extract]
    show List.drop (16 * i) (List.take (16 * i + 16) (catB g n ++ g n).data.toList) = _
    have hl : (catB g n).data.toList.length = 16 * n := catB_size g h n
    have hg : (g n).data.toList.length = 16 := h n
    rw [ByteArray.data_append, Array.toList_append]
    by_cases e : i = n
    · subst e
      rw [List.take_of_length_le (by rw [List.length_append]; omega), List.drop_left' hl]
    · have := catB_part g h i n (by omega)
      rw [List.take_append_of_le_length (by omega), ← toList_extract, this]
def secB (seed : ByteArray) (c : Int) : ByteArray := stB seed 128 c
def pubB (seed : ByteArray) : ByteArray := shB (catB (fun c => wkB (secB seed c) c 0 3) 36)
/-- The digit with number i of the bytes h, of 32. -/
def dg (h : List UInt8) (i : Nat) : Nat := (h.getD (i / 4) 0).toNat / 4 ^ (3 - i % 4) % 4
/-- The sum of 3 less each of the first n digits. -/
def cmp (h : List UInt8) : Nat → Nat
  | 0 => 0
  | n + 1 => cmp h n + (3 - dg h n)
theorem dg_le (h : List UInt8) (i : Nat) : dg h i ≤ 3 := by unfold dg; omega
theorem cmp_le (h : List UInt8) : ∀ n, cmp h n ≤ 3 * n
  | 0 => Nat.le_refl _
  | n + 1 => by have := cmp_le h n; show cmp h n + (3 - dg h n) ≤ _; omega
/-- All 36 digits. -/
def dgs (h : List UInt8) (i : Nat) : Nat := if i < 32 then dg h i else cmp h 32 / 4 ^ (35 - i) % 4
theorem dgs_le (h : List UInt8) (i : Nat) : dgs h i ≤ 3 := by
  unfold dgs
  split
  · exact dg_le h i
  · omega
def digL (h : List UInt8) (n : Nat) : List Value := (List.range n).map fun i => .int .i64 (dgs h i : Nat)
theorem digL_length (h : List UInt8) (n : Nat) : (digL h n).length = n := by simp [digL]
theorem digL_succ (h : List UInt8) (n : Nat) : digL h (n + 1) = digL h n ++ [.int .i64 (dgs h n : Nat)] := by simp [digL, List.range_succ]
theorem digL_get (h : List UInt8) (n j : Nat) (hj : j < n) : (digL h n)[j]? = some (.int .i64 (dgs h j : Nat)) := by simp [digL, hj]
/-- The first 8 bytes of the sum of a message. -/
def h8 (m : ByteArray) : List UInt8 := (sumL m.data.toList).take 8
def signB (seed m : ByteArray) : ByteArray := catB (fun c => wkB (secB seed c) c 0 (dgs (h8 m) c)) 36
def recB (m vs : ByteArray) : ByteArray := shB (catB (fun c => wkB (vs.extract (16 * c) (16 * c + 16)) c (dgs (h8 m) c) (3 - dgs (h8 m) c)) 36)
theorem signB_size (seed m : ByteArray) : (signB seed m).size = 576 := catB_size _ (fun i => wkB_size _ _ _ _ (stB_size _ _ _)) 36
theorem signB_part (seed m : ByteArray) (i : Nat) (hi : i < 36) : (signB seed m).extract (16 * i) (16 * i + 16) = wkB (secB seed i) i 0 (dgs (h8 m) i) :=
  catB_part _ (fun i => wkB_size _ _ _ _ (stB_size _ _ _)) i 36 hi
theorem rec_sign (seed m : ByteArray) : recB m (signB seed m) = pubB seed := by
  unfold recB pubB
  refine congrArg shB (catB_ext 36 fun i hi => ?_)
  show wkB ((signB seed m).extract (16 * i) (16 * i + 16)) i (dgs (h8 m) i) (3 - dgs (h8 m) i) = wkB (secB seed i) i 0 3
  rw [signB_part seed m i hi]
  have h := wkB_add (secB seed i) i 0 (dgs (h8 m) i) (3 - dgs (h8 m) i)
  have hd := dgs_le (h8 m) i
  rw [show dgs (h8 m) i + (3 - dgs (h8 m) i) = 3 by omega, Int.zero_add] at h
  exact h
theorem pubB_size (seed : ByteArray) : (pubB seed).size = 16 := shB_size _
theorem recB_size (m vs : ByteArray) : (recB m vs).size = 16 := shB_size _

/-- Four digits are a byte's own. -/
theorem byte_of_digits {a b : UInt8} (h : ∀ k, k < 4 → a.toNat / 4 ^ (3 - k) % 4 = b.toNat / 4 ^ (3 - k) % 4) : a = b := by
  have h0 := h 0 (by omega); have h1 := h 1 (by omega); have h2 := h 2 (by omega); have h3 := h 3 (by omega)
  have ha := a.toNat_lt; have hb := b.toNat_lt
  simp only [show (3 : Nat) - 0 = 3 from rfl, show (3 : Nat) - 1 = 2 from rfl, show (3 : Nat) - 2 = 1 from rfl, show (3 : Nat) - 3 = 0 from rfl, show (4 : Nat) ^ 3 = 64 from rfl, show (4 : Nat) ^ 2 = 16 from rfl, show (4 : Nat) ^ 1 = 4 from rfl, show (4 : Nat) ^ 0 = 1 from rfl] at h0 h1 h2 h3
  apply UInt8.toNat_inj.1
  omega
/-- Eight bytes with the same digits are the same. -/
theorem bytes_of_digits {a b : List UInt8} (ha : a.length = 8) (hb : b.length = 8) (h : ∀ i, i < 32 → dg a i = dg b i) : a = b := by
  apply List.ext_getElem?
  intro j
  by_cases hj : j < 8
  · have : a.getD j 0 = b.getD j 0 := by
      apply byte_of_digits
      intro k hk
      have := h (4 * j + k) (by omega)
      unfold dg at this
      rw [show (4 * j + k) / 4 = j by omega, show (4 * j + k) % 4 = k by omega] at this
      exact this
    rw [List.getElem?_eq_getElem (by omega), List.getElem?_eq_getElem (by omega)]
    rw [List.getD, List.getD, List.getElem?_eq_getElem (by omega), List.getElem?_eq_getElem (by omega)] at this
    exact congrArg some this
  · rw [List.getElem?_eq_none (by omega), List.getElem?_eq_none (by omega)]
theorem cmp_mono {a b : List UInt8} (h : ∀ i, i < 32 → dg b i ≤ dg a i) : ∀ n, n ≤ 32 → cmp a n ≤ cmp b n
  | 0, _ => Nat.le_refl _
  | n + 1, hn => by
    have h1 := cmp_mono h n (by omega)
    have h2 := h n (by omega)
    show cmp a n + (3 - dg a n) ≤ cmp b n + (3 - dg b n)
    omega
theorem cmp_less {a b : List UInt8} (h : ∀ i, i < 32 → dg b i ≤ dg a i) (j : Nat) (hj : j < 32) (hd : dg b j < dg a j) : ∀ n, n ≤ 32 → j < n → cmp a n < cmp b n
  | 0, _, hz => by omega
  | n + 1, hn, hz => by
    have h2 := h n (by omega)
    show cmp a n + (3 - dg a n) < cmp b n + (3 - dg b n)
    have hl := dg_le a n
    by_cases e : j = n
    · subst e
      have h1 := cmp_mono h j (by omega)
      omega
    · have h1 := cmp_less h j hj hd n (by omega) (by omega)
      omega
theorem four_digits (v : Nat) (h : v < 256) : v = 64 * (v / 64 % 4) + 16 * (v / 16 % 4) + 4 * (v / 4 % 4) + v % 4 := by omega
/-- Of two different lists of digits each has one that is less. -/
theorem one_less {a b : List UInt8} (ha : a.length = 8) (hb : b.length = 8) (hne : a ≠ b) : ∃ i, i < 36 ∧ dgs a i < dgs b i := by
  rcases Classical.em (∃ i, i < 36 ∧ dgs a i < dgs b i) with h | h
  · exact h
  exfalso
  have hall : ∀ i, i < 36 → dgs b i ≤ dgs a i := fun i hi => by
    rcases Nat.lt_or_ge (dgs a i) (dgs b i) with h1 | h1
    · exact absurd ⟨i, hi, h1⟩ h
    · exact h1
  have hd : ∀ i, i < 32 → dg b i ≤ dg a i := fun i hi => by
    have := hall i (by omega)
    unfold dgs at this
    rwa [if_pos hi, if_pos hi] at this
  have hj : ∃ j, j < 32 ∧ dg b j < dg a j := by
    rcases Classical.em (∃ j, j < 32 ∧ dg b j < dg a j) with h1 | h1
    · exact h1
    exact absurd (bytes_of_digits ha hb fun i hi => by
      have := hd i hi
      rcases Nat.lt_or_ge (dg b i) (dg a i) with h2 | h2
      · exact absurd ⟨i, hi, h2⟩ h1
      · omega) hne
  obtain ⟨j, hj, hjd⟩ := hj
  have hc := cmp_less hd j hj hjd 32 (by omega) hj
  have k0 := hall 32 (by omega); have k1 := hall 33 (by omega); have k2 := hall 34 (by omega); have k3 := hall 35 (by omega)
  unfold dgs at k0 k1 k2 k3
  simp only [show ¬ (32 : Nat) < 32 by omega, show ¬ (33 : Nat) < 32 by omega, show ¬ (34 : Nat) < 32 by omega, show ¬ (35 : Nat) < 32 by omega, if_false, show (35 : Nat) - 32 = 3 from rfl, show (35 : Nat) - 33 = 2 from rfl, show (35 : Nat) - 34 = 1 from rfl, show (35 : Nat) - 35 = 0 from rfl, show (4 : Nat) ^ 3 = 64 from rfl, show (4 : Nat) ^ 2 = 16 from rfl, show (4 : Nat) ^ 1 = 4 from rfl, show (4 : Nat) ^ 0 = 1 from rfl] at k0 k1 k2 k3
  have hA := cmp_le a 32; have hB := cmp_le b 32
  have sA := four_digits (cmp a 32) (by omega)
  have sB := four_digits (cmp b 32) (by omega)
  rw [Nat.div_one] at k3
  omega
theorem h8_length (m : ByteArray) : (h8 m).length = 8 := by
  unfold h8; rw [List.length_take, sumL_length]; rfl
/-- Is some digit of the first n less? -/
def lessB (a b : List UInt8) : Nat → Bool
  | 0 => false
  | n + 1 => lessB a b n || decide (dgs a n < dgs b n)
theorem lessB_iff (a b : List UInt8) : ∀ n, lessB a b n = true ↔ ∃ i, i < n ∧ dgs a i < dgs b i
  | 0 => by simp [lessB]
  | n + 1 => by
    rw [lessB, Bool.or_eq_true, lessB_iff a b n, decide_eq_true_eq]
    constructor
    · rintro (⟨i, hi, h⟩ | h)
      · exact ⟨i, by omega, h⟩
      · exact ⟨n, by omega, by omega⟩
    · rintro ⟨i, hi, h⟩
      by_cases e : i = n
      · subst e; exact .inr (by omega)
      · exact .inl ⟨i, by omega, h⟩
theorem less_ne (x y : ByteArray) : lessB (h8 x) (h8 y) 36 = true ↔ h8 x ≠ h8 y := by
  rw [lessB_iff]
  constructor
  · rintro ⟨i, _, h⟩ e
    rw [e] at h
    omega
  · exact fun h => one_less (h8_length x) (h8_length y) h
theorem less_more (x y : ByteArray) : lessB (h8 x) (h8 y) 36 = lessB (h8 y) (h8 x) 36 := by
  rw [Bool.eq_iff_iff, less_ne, less_ne]
  exact ⟨fun h e => h e.symm, fun h e => h e.symm⟩

/-- More arguments than answers: two have the same one. -/
theorem pigeon : ∀ (n : Nat) (f : Nat → Nat), (∀ i, i ≤ n → f i < n) → ∃ i j, i ≤ n ∧ j ≤ n ∧ i ≠ j ∧ f i = f j
  | 0, f, h => absurd (h 0 (Nat.le_refl _)) (by omega)
  | n + 1, f, h => by
    rcases Classical.em (∃ i, i ≤ n ∧ f i = f (n + 1)) with ⟨i, hi, e⟩ | hn
    · exact ⟨i, n + 1, by omega, by omega, by omega, e⟩
    have hf : ∀ i, i ≤ n → f i ≠ f (n + 1) := fun i hi e => hn ⟨i, hi, e⟩
    obtain ⟨i, j, hi, hj, hij, e⟩ := pigeon n (fun i => if f i = n then f (n + 1) else f i) (fun i hi => by
      have h1 := h i (by omega); have h2 := h (n + 1) (by omega); have h3 := hf i hi
      show (if f i = n then f (n + 1) else f i) < n
      split <;> omega)
    refine ⟨i, j, by omega, by omega, hij, ?_⟩
    have e' : (if f i = n then f (n + 1) else f i) = (if f j = n then f (n + 1) else f j) := e
    have h1 := hf i hi; have h2 := hf j hj
    split at e' <;> split at e' <;> omega
/-- A number as bytes, and back. -/
def nb : Nat → Nat → List UInt8
  | 0, _ => []
  | k + 1, n => UInt8.ofNat (n % 256) :: nb k (n / 256)
def bn : List UInt8 → Nat
  | [] => 0
  | c :: l => c.toNat + 256 * bn l
theorem nb_length : ∀ k n, (nb k n).length = k
  | 0, _ => rfl
  | k + 1, n => by simp [nb, nb_length k]
theorem bn_nb : ∀ k n, n < 256 ^ k → bn (nb k n) = n
  | 0, n, h => by simp at h; simp [nb, bn, h]
  | k + 1, n, h => by
    have := bn_nb k (n / 256) (by rw [Nat.pow_succ] at h; omega)
    simp only [nb, bn, this, UInt8.toNat_ofNat']
    omega
theorem bn_lt : ∀ (l : List UInt8), bn l < 256 ^ l.length
  | [] => by simp [bn]
  | c :: l => by
    have := bn_lt l; have := c.toNat_lt
    simp only [bn, List.length_cons, Nat.pow_succ]
    omega
theorem bn_inj : ∀ {a b : List UInt8}, a.length = b.length → bn a = bn b → a = b
  | [], [], _, _ => rfl
  | c :: l, d :: m, hl, e => by
    simp only [bn] at e
    have h1 := c.toNat_lt; have h2 := d.toNat_lt
    have e1 : c.toNat = d.toNat := by omega
    rw [UInt8.toNat_inj.1 e1, bn_inj (by simpa using hl) (by omega : bn l = bn m)]
  | [], _ :: _, hl, _ => by simp at hl
  | _ :: _, [], hl, _ => by simp at hl
/-- Two different seeds of 17 bytes have one public value: there are more of them than of values. -/
theorem two_seeds : ∃ a b : ByteArray, a.size = 17 ∧ b.size = 17 ∧ a ≠ b ∧ pubB a = pubB b := by
  obtain ⟨i, j, hi, hj, hij, e⟩ := pigeon (256 ^ 16) (fun i => bn (pubB ⟨(nb 17 i).toArray⟩).data.toList) (fun i _ => by
    have h := bn_lt (pubB ⟨(nb 17 i).toArray⟩).data.toList
    rwa [show (pubB ⟨(nb 17 i).toArray⟩).data.toList.length = 16 from pubB_size _] at h)
  have sz : ∀ n, (⟨(nb 17 n).toArray⟩ : ByteArray).size = 17 := fun n => by show (nb 17 n).toArray.size = 17; rw [List.size_toArray, nb_length]
  refine ⟨_, _, sz i, sz j, fun h => hij ?_, bytes_ext (bn_inj ?_ e)⟩
  · have h1 := congrArg (fun s : ByteArray => bn s.data.toList) h
    have h2 : bn (nb 17 i) = bn (nb 17 j) := h1
    rwa [bn_nb 17 i (by have : 256 ^ 16 < 256 ^ 17 := by decide
                        omega), bn_nb 17 j (by have : 256 ^ 16 < 256 ^ 17 := by decide
                                               omega)] at h2
  · rw [show (pubB ⟨(nb 17 i).toArray⟩).data.toList.length = 16 from pubB_size _, show (pubB ⟨(nb 17 j).toArray⟩).data.toList.length = 16 from pubB_size _]
end Go.Proofs.YtpophimnoakinaaDoor
