/- Thresholds and sets that are enough, as data: more keys, all keys, the least number, two lists of weights. -/
import Derived.Test.YtefhhfpdponabaaTdat
namespace Go.Proofs.Ytefhhfpdponabaa
open Go
set_option linter.unusedVariables false
set_option linter.unusedSimpArgs false

def wts (l : List FR) : Prop := l.length ≤ 8 ∧ ∀ f ∈ l, wtB f = true
theorem wts.den {l : List FR} (h : wts l) : ∀ f ∈ l, 1 ≤ f.2 := fun f hf => ((wtB_iff f).1 (h.2 f hf)).1
theorem sumE_ok (l : List FR) : sumE l = 0 ↔ wts l := by
  unfold sumE wts
  by_cases h : 8 < l.length
  · rw [if_pos h]
    exact ⟨fun e => by omega, fun e => by omega⟩
  · rw [if_neg h]
    by_cases g : l.all wtB = true
    · rw [if_pos g]
      exact ⟨fun _ => ⟨by omega, List.all_eq_true.1 g⟩, fun _ => rfl⟩
    · rw [if_neg g]
      exact ⟨fun e => by omega, fun e => absurd (List.all_eq_true.2 e.2) g⟩
theorem oneB_iff (l : List FR) : oneB l = true ↔ wts l ∧ (sumF l).2 ≤ (sumF l).1 := by
  unfold oneB
  rw [Bool.and_eq_true, decide_eq_true_eq, beq_iff_eq, sumE_ok]
/-- The weights of the keys of a set: the first has the number k. -/
def pick (p : Nat → Bool) : Nat → List FR → List FR
  | _, [] => []
  | k, f :: l => if p k = true then f :: pick p (k + 1) l else pick p (k + 1) l
theorem pick_len (p : Nat → Bool) : ∀ (l : List FR) (k : Nat), (pick p k l).length ≤ l.length
  | [], _ => Nat.le_refl _
  | f :: l, k => by
    have := pick_len p l (k + 1)
    unfold pick
    split
    · simp only [List.length_cons]; omega
    · simp only [List.length_cons]; omega
theorem pick_mem (p : Nat → Bool) : ∀ (l : List FR) (k : Nat) (f : FR), f ∈ pick p k l → f ∈ l
  | g :: l, k, f, h => by
    unfold pick at h
    split at h
    · rcases List.mem_cons.1 h with rfl | h
      · exact .head _
      · exact .tail _ (pick_mem p l (k + 1) f h)
    · exact .tail _ (pick_mem p l (k + 1) f h)
theorem pick_wts {l : List FR} (h : wts l) (p : Nat → Bool) (k : Nat) : wts (pick p k l) :=
  ⟨Nat.le_trans (pick_len p l k) h.1, fun f hf => h.2 f (pick_mem p l k f hf)⟩
theorem pick_ext {p q : Nat → Bool} : ∀ (l : List FR) (k : Nat), (∀ i, k ≤ i → i < k + l.length → p i = q i) → pick p k l = pick q k l
  | [], _, _ => rfl
  | f :: l, k, h => by
    unfold pick
    rw [h k (Nat.le_refl _) (by simp), pick_ext l (k + 1) (fun i h1 h2 => h i (by omega) (by simp only [List.length_cons]; omega))]
theorem pick_all : ∀ (l : List FR) (p : Nat → Bool) (k : Nat), (∀ i, k ≤ i → i < k + l.length → p i = true) → pick p k l = l
  | [], _, _, _ => rfl
  | f :: l, p, k, h => by
    unfold pick
    rw [if_pos (h k (Nat.le_refl _) (by simp)), pick_all l p (k + 1) (fun i h1 h2 => h i (by omega) (by simp only [List.length_cons]; omega))]
theorem pick_none : ∀ (l : List FR) (p : Nat → Bool) (k : Nat), (∀ i, k ≤ i → i < k + l.length → p i = false) → pick p k l = []
  | [], _, _, _ => rfl
  | f :: l, p, k, h => by
    unfold pick
    rw [if_neg (by rw [h k (Nat.le_refl _) (by simp)]; decide), pick_none l p (k + 1) (fun i h1 h2 => h i (by omega) (by simp only [List.length_cons]; omega))]
theorem pick_shift (p : Nat → Bool) (n : Nat) : ∀ (l : List FR) (k : Nat), pick p (n + k) l = pick (fun i => p (n + i)) k l
  | [], _ => rfl
  | f :: l, k => by
    unfold pick
    rw [show n + k + 1 = n + (k + 1) by omega, pick_shift p n l (k + 1)]
/-- Not less. -/
def leF (s t : Nat × Nat) : Prop := s.1 * t.2 ≤ t.1 * s.2
theorem leF_step {s t : Nat × Nat} (h : leF s t) (f : FR) : leF (addN s f) (addN t f) := by
  unfold leF at h ⊢
  show (s.1 * f.2.toNat + f.1.toNat * s.2) * (t.2 * f.2.toNat) ≤ (t.1 * f.2.toNat + f.1.toNat * t.2) * (s.2 * f.2.toNat)
  generalize f.1.toNat = a; generalize f.2.toNat = b
  rw [Nat.add_mul, Nat.add_mul]
  have e1 : s.1 * b * (t.2 * b) = b * b * (s.1 * t.2) := by rw [Nat.mul_mul_mul_comm, Nat.mul_comm]
  have e2 : t.1 * b * (s.2 * b) = b * b * (t.1 * s.2) := by rw [Nat.mul_mul_mul_comm, Nat.mul_comm]
  have e3 : a * s.2 * (t.2 * b) = a * t.2 * (s.2 * b) := by rw [Nat.mul_assoc, Nat.mul_assoc, Nat.mul_left_comm s.2]
  rw [e1, e2, e3]
  exact Nat.add_le_add_right (Nat.mul_le_mul_left _ h) _
theorem leF_more {s t : Nat × Nat} (h : leF s t) (f : FR) : leF s (addN t f) := by
  unfold leF at h ⊢
  show s.1 * (t.2 * f.2.toNat) ≤ (t.1 * f.2.toNat + f.1.toNat * t.2) * s.2
  rw [Nat.add_mul, ← Nat.mul_assoc, Nat.mul_right_comm t.1]
  exact Nat.le_trans (Nat.mul_le_mul_right _ h) (Nat.le_add_right _ _)
theorem pick_le {p q : Nat → Bool} (hpq : ∀ i, p i = true → q i = true) : ∀ (l : List FR) (k : Nat) (s t : Nat × Nat), leF s t → leF ((pick p k l).foldl addN s) ((pick q k l).foldl addN t)
  | [], _, _, _, h => h
  | f :: l, k, s, t, h => by
    unfold pick
    by_cases hp : p k = true
    · rw [if_pos hp, if_pos (hpq k hp)]
      exact pick_le hpq l (k + 1) _ _ (leF_step h f)
    · rw [if_neg hp]
      by_cases hq : q k = true
      · rw [if_pos hq]
        exact pick_le hpq l (k + 1) s _ (leF_more h f)
      · rw [if_neg hq]
        exact pick_le hpq l (k + 1) s t h
theorem one_mono {p q : Nat → Bool} (hpq : ∀ i, p i = true → q i = true) {l : List FR} (hl : wts l) (k : Nat) (h : oneB (pick p k l) = true) : oneB (pick q k l) = true := by
  rw [oneB_iff] at h ⊢
  have hp := pick_wts hl p k
  have hq := pick_wts hl q k
  refine ⟨hq, ?_⟩
  have h1 := h.2
  rw [sumF_nrm hp.den] at h1
  rw [sumF_nrm hq.den]
  have h2 := cross_nrm (foldN_den _ (0, 1) (by decide) hp.den) (foldN_den _ (0, 1) (by decide) hq.den) (pick_le hpq l k (0, 1) (0, 1) (Nat.le_refl _))
  have d1 := nrm_den (foldN_den _ (0, 1) (by decide) hp.den)
  generalize nrm ((pick p k l).foldl addN (0, 1)) = a at h1 h2 d1
  generalize nrm ((pick q k l).foldl addN (0, 1)) = b at h2 ⊢
  have h3 : a.2 * b.2 ≤ a.2 * b.1 := by
    rw [Nat.mul_comm a.2 b.1]
    exact Nat.le_trans (Nat.mul_le_mul_right _ h1) h2
  exact Nat.le_of_mul_le_mul_left h3 d1
theorem one_nil : oneB [] = false := by decide
/-- Enough in each of the lists; the first key of them has the number k. -/
def enL (p : Nat → Bool) : Nat → List (List FR) → Bool
  | _, [] => true
  | k, l :: r => oneB (pick p k l) && enL p (k + l.length) r
def cnt (p : Nat → Bool) (n : Nat) : Nat := ((List.range n).filter p).length
def enB (num : Int) (ws : List (List FR)) (p : Nat → Bool) : Bool := if ws = [] then decide (num ≤ (cnt p 8 : Int)) else enL p 0 ws
def lenL : List (List FR) → Nat
  | [] => 0
  | l :: r => l.length + lenL r
def validB (num : Int) (ws : List (List FR)) (keys : Int) : Bool :=
  if keys = 0 then decide (num = 0) && decide (ws = [])
  else if keys < 0 ∨ 8 < keys then false
  else if ws = [] then decide (1 ≤ num) && decide (num ≤ keys)
  else ws.all (fun l => !l.isEmpty && oneB l) && decide (num = 0) && decide ((lenL ws : Int) = keys)
theorem cnt_mono {p q : Nat → Bool} (n : Nat) (hpq : ∀ i, i < n → p i = true → q i = true) : cnt p n ≤ cnt q n := by
  unfold cnt
  induction n with
  | zero => exact Nat.le_refl _
  | succ n ih =>
    have h1 := ih (fun i hi => hpq i (by omega))
    rw [List.range_succ, List.filter_append, List.filter_append, List.length_append, List.length_append]
    have h2 : ([n].filter p).length ≤ ([n].filter q).length := by
      by_cases hp : p n = true
      · rw [List.filter_cons_of_pos hp, List.filter_cons_of_pos (hpq n (by omega) hp)]; exact Nat.le_refl _
      · rw [List.filter_cons_of_neg hp]; exact Nat.zero_le _
    omega
theorem enL_mono {p q : Nat → Bool} (hpq : ∀ i, p i = true → q i = true) : ∀ (ws : List (List FR)) (k : Nat), (∀ l ∈ ws, wts l) → enL p k ws = true → enL q k ws = true
  | [], _, _, _ => rfl
  | l :: r, k, hw, h => by
    unfold enL at h ⊢
    rw [Bool.and_eq_true] at h ⊢
    exact ⟨one_mono hpq (hw l (.head _)) k h.1, enL_mono hpq r _ (fun x hx => hw x (.tail _ hx)) h.2⟩
/-- What is enough stays so with more keys. -/
theorem enB_mono {num : Int} {ws : List (List FR)} {p q : Nat → Bool} (hw : ∀ l ∈ ws, wts l) (hpq : ∀ i, p i = true → q i = true) (h : enB num ws p = true) : enB num ws q = true := by
  unfold enB at h ⊢
  by_cases he : ws = []
  · rw [if_pos he, decide_eq_true_eq] at h ⊢
    have := cnt_mono 8 (fun i _ => hpq i)
    omega
  · rw [if_neg he] at h ⊢
    exact enL_mono hpq ws 0 hw h
theorem validB_wts {num : Int} {ws : List (List FR)} {keys : Int} (h : validB num ws keys = true) : ∀ l ∈ ws, wts l ∧ l ≠ [] ∧ oneB l = true := by
  intro l hl
  unfold validB at h
  split at h
  · rw [Bool.and_eq_true, decide_eq_true_eq, decide_eq_true_eq] at h
    rw [h.2] at hl; cases hl
  split at h
  · cases h
  split at h
  · rename_i e; rw [e] at hl; cases hl
  · rw [Bool.and_eq_true, Bool.and_eq_true, List.all_eq_true] at h
    have h1 := h.1.1 l hl
    rw [Bool.and_eq_true] at h1
    refine ⟨((oneB_iff l).1 h1.2).1, fun e => ?_, h1.2⟩
    rw [e] at h1; cases h1.1
theorem enL_all {p : Nat → Bool} : ∀ (ws : List (List FR)) (k : Nat), (∀ l ∈ ws, oneB l = true) → (∀ i, k ≤ i → i < k + lenL ws → p i = true) → enL p k ws = true
  | [], _, _, _ => rfl
  | l :: r, k, hw, h => by
    unfold enL
    rw [pick_all l p k (fun i h1 h2 => h i h1 (by unfold lenL; omega)), hw l (.head _), Bool.true_and]
    exact enL_all r _ (fun x hx => hw x (.tail _ hx)) (fun i h1 h2 => h i (by omega) (by unfold lenL; omega))
theorem cnt_all {p : Nat → Bool} (n : Nat) (h : ∀ i, i < n → p i = true) : cnt p n = n := by
  unfold cnt
  rw [List.filter_eq_self.2 (fun i hi => h i (List.mem_range.1 hi)), List.length_range]
theorem cnt_part {p : Nat → Bool} {k n : Nat} (hk : k ≤ n) (h : ∀ i, i < k → p i = true) : k ≤ cnt p n := by
  have h1 := cnt_mono (p := fun i => decide (i < k)) (q := p) n (fun i _ hi => h i (by simpa using hi))
  have h2 : cnt (fun i => decide (i < k)) n = k := by
    unfold cnt
    obtain ⟨d, rfl⟩ : ∃ d, n = k + d := ⟨n - k, by omega⟩
    rw [List.range_add, List.filter_append, List.length_append, List.filter_eq_self.2 (fun i hi => by simpa using hi), List.length_range]
    have : ((List.range d).map (k + ·)).filter (fun i => decide (i < k)) = [] := List.filter_eq_nil_iff.2 (fun i hi => by
      obtain ⟨j, _, rfl⟩ := List.mem_map.1 hi
      simp)
    rw [this]; rfl
  omega
/-- All keys are enough. -/
theorem enB_all {num : Int} {ws : List (List FR)} {keys : Nat} (hv : validB num ws keys = true) {p : Nat → Bool} (hp : ∀ i, i < keys → p i = true) : enB num ws p = true := by
  have hw := validB_wts hv
  unfold validB at hv
  unfold enB
  by_cases he : ws = []
  · rw [if_pos he, decide_eq_true_eq]
    split at hv
    · rw [Bool.and_eq_true, decide_eq_true_eq] at hv; rw [hv.1]; exact Int.natCast_nonneg _
    split at hv
    · cases hv
    rename_i h8
    rw [Bool.and_eq_true, decide_eq_true_eq, decide_eq_true_eq] at hv
    have := cnt_part (p := p) (show keys ≤ 8 by omega) hp
    omega
  · rw [if_neg he]
    split at hv
    · rw [Bool.and_eq_true, decide_eq_true_eq, decide_eq_true_eq] at hv; exact absurd hv.2 he
    split at hv
    · cases hv
    rw [Bool.and_eq_true, decide_eq_true_eq] at hv
    have hlen : lenL ws = keys := by have := hv.2; omega
    exact enL_all ws 0 (fun l hl => (hw l hl).2.2) (fun i _ hi => hp i (by omega))
/-- No key is not enough. -/
theorem enB_none {num : Int} {ws : List (List FR)} {keys : Nat} (hk : 1 ≤ keys) (hv : validB num ws keys = true) {p : Nat → Bool} (hp : ∀ i, i < 8 → p i = false) : enB num ws p = false := by
  unfold validB at hv
  unfold enB
  rw [if_neg (by omega)] at hv
  split at hv
  · cases hv
  by_cases he : ws = []
  · rw [if_pos he]
    rw [if_pos he, Bool.and_eq_true, decide_eq_true_eq] at hv
    have : cnt p 8 = 0 := by
      unfold cnt
      rw [List.length_eq_zero_iff, List.filter_eq_nil_iff]
      exact fun i hi => by rw [hp i (List.mem_range.1 hi)]; decide
    rw [this, decide_eq_false_iff_not]
    omega
  · rw [if_neg he]
    rw [if_neg he, Bool.and_eq_true, decide_eq_true_eq] at hv
    cases ws with
    | nil => exact absurd rfl he
    | cons l r =>
      have hlen : l.length ≤ 8 := by have := hv.2; unfold lenL at this; omega
      unfold enL
      rw [pick_none l p 0 (fun i _ h2 => hp i (by omega)), one_nil]
      rfl
/-- The set of a number's bits. -/
def bitB (m k : Nat) : Bool := m / 2 ^ k % 2 == 1
/-- L is the least number of keys, out of n, of a set that is enough. -/
def IsLeast (n : Nat) (P : (Nat → Bool) → Bool) (L : Nat) : Prop := (∃ m, m < 2 ^ n ∧ P (bitB m) = true ∧ cnt (bitB m) n = L) ∧ ∀ m, m < 2 ^ n → P (bitB m) = true → L ≤ cnt (bitB m) n
theorem IsLeast.uniq {n : Nat} {P : (Nat → Bool) → Bool} {a b : Nat} (ha : IsLeast n P a) (hb : IsLeast n P b) : a = b := by
  obtain ⟨⟨m, h1, h2, h3⟩, h4⟩ := ha
  obtain ⟨⟨m', h1', h2', h3'⟩, h4'⟩ := hb
  have := h4 m' h1' h2'
  have := h4' m h1 h2
  omega
theorem bitB_full (n k : Nat) (hk : k < n) : bitB (2 ^ n - 1) k = true := by
  unfold bitB
  rw [beq_iff_eq]
  have h := Nat.testBit_two_pow_sub_one n k
  rw [decide_eq_true hk, Nat.testBit_eq_decide_div_mod_eq, decide_eq_true_eq] at h
  exact h
theorem bitB_zero (k : Nat) : bitB 0 k = false := by unfold bitB; rw [Nat.zero_div]; rfl
theorem bitB_out {m n k : Nat} (hm : m < 2 ^ n) (hk : n ≤ k) : bitB m k = false := by
  unfold bitB
  rw [Nat.div_eq_of_lt (Nat.lt_of_lt_of_le hm (Nat.pow_le_pow_right (by decide) hk))]
  rfl
theorem cnt_le (p : Nat → Bool) (n : Nat) : cnt p n ≤ n := by
  unfold cnt
  exact Nat.le_trans (List.length_filter_le _ _) (by rw [List.length_range]; exact Nat.le_refl _)
/-- The least number lies between one and that of all keys. -/
theorem least_bounds {num : Int} {ws : List (List FR)} {keys L : Nat} (hk : 1 ≤ keys) (hv : validB num ws keys = true) (hL : IsLeast keys (enB num ws) L) : 1 ≤ L ∧ L ≤ keys := by
  obtain ⟨⟨m, h1, h2, h3⟩, h4⟩ := hL
  have h8 : keys ≤ 8 := by
    unfold validB at hv
    rw [if_neg (by omega)] at hv
    split at hv
    · cases hv
    · omega
  refine ⟨?_, by rw [← h3]; exact cnt_le _ _⟩
  rcases Nat.eq_zero_or_pos L with h0 | h0
  · exfalso
    have hz : ∀ i, i < 8 → bitB m i = false := by
      intro i hi
      by_cases hik : i < keys
      · cases hb : bitB m i with
        | false => rfl
        | true =>
          have : 0 < cnt (bitB m) keys := by
            unfold cnt
            exact List.length_pos_iff_exists_mem.2 ⟨i, List.mem_filter.2 ⟨List.mem_range.2 hik, hb⟩⟩
          omega
      · exact bitB_out h1 (by omega)
    rw [enB_none hk hv hz] at h2
    cases h2
  · exact h0
/-- Two lists of weights: the parts are enough for each by itself. -/
theorem enL_ext {p q : Nat → Bool} : ∀ (ws : List (List FR)) (k : Nat), (∀ i, k ≤ i → i < k + lenL ws → p i = q i) → enL p k ws = enL q k ws
  | [], _, _ => rfl
  | l :: r, k, h => by
    unfold enL
    rw [pick_ext l k (fun i h1 h2 => h i h1 (by unfold lenL; omega)), enL_ext r (k + l.length) (fun i h1 h2 => h i (by omega) (by unfold lenL; omega))]
theorem enB_two (a b : List FR) (p : Nat → Bool) : enB 0 [a, b] p = (enB 0 [a] p && enB 0 [b] (fun i => p (a.length + i))) := by
  unfold enB
  rw [if_neg (by simp), if_neg (by simp), if_neg (by simp)]
  unfold enL enL enL
  simp only [Bool.and_true, Nat.zero_add]
  have := pick_shift p a.length b 0
  rw [Nat.add_zero] at this
  rw [this]
theorem cnt_add (p : Nat → Bool) (n m : Nat) : cnt p (n + m) = cnt p n + cnt (fun i => p (n + i)) m := by
  unfold cnt
  rw [List.range_add, List.filter_append, List.length_append, List.filter_map, List.length_map]
  rfl
theorem cnt_ext {p q : Nat → Bool} (n : Nat) (h : ∀ i, i < n → p i = q i) : cnt p n = cnt q n := by
  unfold cnt
  rw [List.filter_congr (fun i hi => h i (List.mem_range.1 hi))]
theorem bitB_low (m n k : Nat) (hk : k < n) : bitB (m % 2 ^ n) k = bitB m k := by
  have h := Nat.testBit_mod_two_pow m n k
  rw [decide_eq_true hk, Bool.true_and, Nat.testBit_eq_decide_div_mod_eq, Nat.testBit_eq_decide_div_mod_eq] at h
  unfold bitB
  rw [Bool.eq_iff_iff, beq_iff_eq, beq_iff_eq]
  rwa [Bool.eq_iff_iff, decide_eq_true_eq, decide_eq_true_eq] at h
theorem bitB_high (m n k : Nat) : bitB (m / 2 ^ n) k = bitB m (n + k) := by
  unfold bitB
  rw [Nat.div_div_eq_div_mul, Nat.pow_add]
theorem bitB_join (x y n k : Nat) (hx : x < 2 ^ n) : bitB (x + 2 ^ n * y) k = if k < n then bitB x k else bitB y (k - n) := by
  by_cases h : k < n
  · rw [if_pos h, ← bitB_low _ n k h, Nat.add_mul_mod_self_left, Nat.mod_eq_of_lt hx]
  · rw [if_neg h, show k = n + (k - n) by omega, ← bitB_high, Nat.add_mul_div_left _ _ (Nat.two_pow_pos n), Nat.div_eq_of_lt hx, Nat.zero_add]
    rw [show n + (k - n) - n = k - n by omega]
theorem least_two {a b : List FR} {L1 L2 : Nat} (h1 : IsLeast a.length (enB 0 [a]) L1) (h2 : IsLeast b.length (enB 0 [b]) L2) : IsLeast (a.length + b.length) (enB 0 [a, b]) (L1 + L2) := by
  have ext1 : ∀ (p q : Nat → Bool) (l : List FR), (∀ i, i < l.length → p i = q i) → enB 0 [l] p = enB 0 [l] q := fun p q l h => by
    unfold enB
    rw [if_neg (by simp), if_neg (by simp)]
    exact enL_ext [l] 0 (fun i _ h2 => h i (by unfold lenL lenL at h2; omega))
  obtain ⟨⟨x, x1, x2, x3⟩, x4⟩ := h1
  obtain ⟨⟨y, y1, y2, y3⟩, y4⟩ := h2
  constructor
  · refine ⟨x + 2 ^ a.length * y, ?_, ?_, ?_⟩
    · rw [Nat.pow_add]
      have : x + 2 ^ a.length * y < 2 ^ a.length * (y + 1) := by rw [Nat.mul_add]; omega
      exact Nat.lt_of_lt_of_le this (Nat.mul_le_mul_left _ y1)
    · rw [enB_two, ext1 (bitB (x + 2 ^ a.length * y)) (bitB x) a (fun i hi => by rw [bitB_join x y _ i x1, if_pos hi]), x2, Bool.true_and,
        ext1 _ (bitB y) b (fun i hi => by rw [bitB_join x y _ _ x1, if_neg (by omega), show a.length + i - a.length = i by omega]), y2]
    · rw [cnt_add, cnt_ext (q := bitB x) _ (fun i hi => by rw [bitB_join x y _ i x1, if_pos hi]), x3, cnt_ext (q := bitB y) _ (fun i hi => by rw [bitB_join x y _ _ x1, if_neg (by omega), show a.length + i - a.length = i by omega]), y3]
  · intro m hm he
    rw [enB_two, Bool.and_eq_true] at he
    rw [cnt_add]
    have e1 : enB 0 [a] (bitB (m % 2 ^ a.length)) = true := by rw [ext1 _ (bitB m) a (fun i hi => bitB_low m _ i hi)]; exact he.1
    have e2 : enB 0 [b] (bitB (m / 2 ^ a.length)) = true := by rw [ext1 _ (fun i => bitB m (a.length + i)) b (fun i hi => bitB_high m _ i)]; exact he.2
    have g1 := x4 _ (Nat.mod_lt _ (Nat.two_pow_pos _)) e1
    have g2 := y4 _ (by rw [Nat.div_lt_iff_lt_mul (Nat.two_pow_pos _), Nat.mul_comm, ← Nat.pow_add]; exact hm) e2
    rw [cnt_ext (q := bitB m) _ (fun i hi => bitB_low m _ i hi)] at g1
    rw [cnt_ext (q := fun i => bitB m (a.length + i)) _ (fun i hi => bitB_high m _ i)] at g2
    omega
end Go.Proofs.Ytefhhfpdponabaa
