/- Weights, sums of them, thresholds, sets that are enough, as data: sums do not depend on the order and are in lowest terms; a set that is enough stays so with more keys; the least number. -/
import Derived.Test.YtefhhfpdponabaaPlain
namespace Go.Proofs.Ytefhhfpdponabaa
open Go
set_option linter.unusedVariables false
set_option linter.unusedSimpArgs false

/-- A fraction as it comes: a number and what it is divided by. -/
abbrev FR := Int × Int
def wtB (f : FR) : Bool := decide (1 ≤ f.2) && decide (f.2 ≤ 100) && decide (0 ≤ f.1) && decide (f.1 ≤ f.2) && (Nat.gcd f.1.toNat f.2.toNat == 1)
theorem wtB_iff (f : FR) : wtB f = true ↔ 1 ≤ f.2 ∧ f.2 ≤ 100 ∧ 0 ≤ f.1 ∧ f.1 ≤ f.2 ∧ Nat.gcd f.1.toNat f.2.toNat = 1 := by
  unfold wtB
  simp only [Bool.and_eq_true, decide_eq_true_eq, beq_iff_eq]
  constructor
  · rintro ⟨⟨⟨⟨a, b⟩, c⟩, d⟩, e⟩; exact ⟨a, b, c, d, e⟩
  · rintro ⟨a, b, c, d, e⟩; exact ⟨⟨⟨⟨a, b⟩, c⟩, d⟩, e⟩
/-- In lowest terms. -/
def nrm (s : Nat × Nat) : Nat × Nat := (s.1 / Nat.gcd s.1 s.2, s.2 / Nat.gcd s.1 s.2)
/-- A fraction more, not yet in lowest terms. -/
def addN (s : Nat × Nat) (f : FR) : Nat × Nat := (s.1 * f.2.toNat + f.1.toNat * s.2, s.2 * f.2.toNat)
def stepF (s : Nat × Nat) (f : FR) : Nat × Nat := nrm (addN s f)
def sumF (l : List FR) : Nat × Nat := l.foldl stepF (0, 1)
theorem nrm_scale (k a b : Nat) (hk : 0 < k) : nrm (k * a, k * b) = nrm (a, b) := by
  unfold nrm
  simp only [Nat.gcd_mul_left, Nat.mul_div_mul_left _ _ hk]
theorem gcd_pos_right {a b : Nat} (hb : 0 < b) : 0 < Nat.gcd a b := Nat.gcd_pos_of_pos_right _ hb
theorem nrm_den {s : Nat × Nat} (h : 0 < s.2) : 0 < (nrm s).2 := by
  unfold nrm
  exact Nat.div_pos (Nat.le_of_dvd h (Nat.gcd_dvd_right _ _)) (gcd_pos_right h)
theorem nrm_cop {s : Nat × Nat} (h : 0 < s.2) : Nat.gcd (nrm s).1 (nrm s).2 = 1 := by
  unfold nrm
  exact Nat.gcd_div_gcd_div_gcd_of_pos_right h
theorem nrm_id {s : Nat × Nat} (h : Nat.gcd s.1 s.2 = 1) : nrm s = s := by
  unfold nrm
  rw [h, Nat.div_one, Nat.div_one]
theorem nrm_fold {s : Nat × Nat} (h : 0 < s.2) : ∃ g, 0 < g ∧ s = (g * (nrm s).1, g * (nrm s).2) := by
  refine ⟨Nat.gcd s.1 s.2, gcd_pos_right h, ?_⟩
  unfold nrm
  rw [Nat.mul_div_cancel' (Nat.gcd_dvd_left _ _), Nat.mul_div_cancel' (Nat.gcd_dvd_right _ _)]
theorem addN_scale (g : Nat) (t : Nat × Nat) (f : FR) : addN (g * t.1, g * t.2) f = (g * (addN t f).1, g * (addN t f).2) := by
  refine Prod.ext ?_ ?_
  · show g * t.1 * f.2.toNat + f.1.toNat * (g * t.2) = g * (t.1 * f.2.toNat + f.1.toNat * t.2)
    rw [Nat.mul_add, Nat.mul_assoc, Nat.mul_left_comm f.1.toNat]
  · show g * t.2 * f.2.toNat = g * (t.2 * f.2.toNat)
    rw [Nat.mul_assoc]
theorem addN_nrm {s : Nat × Nat} (h : 0 < s.2) (f : FR) : nrm (addN (nrm s) f) = nrm (addN s f) := by
  obtain ⟨g, hg, e⟩ := nrm_fold h
  have : addN s f = (g * (addN (nrm s) f).1, g * (addN (nrm s) f).2) := (congrArg (fun x => addN x f) e).trans (addN_scale g (nrm s) f)
  rw [this, nrm_scale _ _ _ hg]
theorem addN_den {s : Nat × Nat} (h : 0 < s.2) {f : FR} (hf : 1 ≤ f.2) : 0 < (addN s f).2 := Nat.mul_pos h (by omega)
theorem addN_comm (s : Nat × Nat) (f g : FR) : addN (addN s f) g = addN (addN s g) f := by
  unfold addN
  refine Prod.ext ?_ ?_
  · show (s.1 * f.2.toNat + f.1.toNat * s.2) * g.2.toNat + g.1.toNat * (s.2 * f.2.toNat) = (s.1 * g.2.toNat + g.1.toNat * s.2) * f.2.toNat + f.1.toNat * (s.2 * g.2.toNat)
    generalize f.1.toNat = a; generalize f.2.toNat = b; generalize g.1.toNat = c; generalize g.2.toNat = d
    rw [Nat.add_mul, Nat.add_mul]
    have e1 : s.1 * b * d = s.1 * d * b := Nat.mul_right_comm _ _ _
    have e2 : a * s.2 * d = a * (s.2 * d) := Nat.mul_assoc _ _ _
    have e3 : c * s.2 * b = c * (s.2 * b) := Nat.mul_assoc _ _ _
    rw [e1, e2, e3]
    omega
  · show s.2 * f.2.toNat * g.2.toNat = s.2 * g.2.toNat * f.2.toNat
    exact Nat.mul_right_comm _ _ _
/-- The sum in lowest terms is that of the sum as it comes. -/
theorem fold_nrm : ∀ (l : List FR) (s : Nat × Nat), 0 < s.2 → (∀ f ∈ l, 1 ≤ f.2) → l.foldl stepF (nrm s) = nrm (l.foldl addN s)
  | [], s, _, _ => rfl
  | f :: l, s, hs, hl => by
    rw [List.foldl_cons, List.foldl_cons]
    show l.foldl stepF (nrm (addN (nrm s) f)) = _
    rw [addN_nrm hs]
    exact fold_nrm l (addN s f) (addN_den hs (hl f (.head _))) (fun g hg => hl g (.tail _ hg))
theorem sumF_nrm {l : List FR} (hl : ∀ f ∈ l, 1 ≤ f.2) : sumF l = nrm (l.foldl addN (0, 1)) := fold_nrm l (0, 1) (by decide) hl
theorem foldN_den : ∀ (l : List FR) (s : Nat × Nat), 0 < s.2 → (∀ f ∈ l, 1 ≤ f.2) → 0 < (l.foldl addN s).2
  | [], s, hs, _ => hs
  | f :: l, s, hs, hl => foldN_den l (addN s f) (addN_den hs (hl f (.head _))) (fun g hg => hl g (.tail _ hg))
theorem sumF_den {l : List FR} (hl : ∀ f ∈ l, 1 ≤ f.2) : 0 < (sumF l).2 := by
  rw [sumF_nrm hl]; exact nrm_den (foldN_den l _ (by decide) hl)
/-- Sums are in lowest terms. -/
theorem sumF_cop {l : List FR} (hl : ∀ f ∈ l, 1 ≤ f.2) : Nat.gcd (sumF l).1 (sumF l).2 = 1 := by
  rw [sumF_nrm hl]; exact nrm_cop (foldN_den l _ (by decide) hl)
/-- Sums do not depend on the order. -/
theorem foldN_append (a b : List FR) (s : Nat × Nat) : (a ++ b).foldl addN s = (b ++ a).foldl addN s :=
  List.Perm.foldl_eq' List.perm_append_comm (fun x _ y _ z => addN_comm z x y) s
theorem sumF_append {a b : List FR} (ha : ∀ f ∈ a, 1 ≤ f.2) (hb : ∀ f ∈ b, 1 ≤ f.2) : sumF (a ++ b) = sumF (b ++ a) := by
  have h1 : ∀ f ∈ a ++ b, 1 ≤ f.2 := fun f hf => (List.mem_append.1 hf).elim (ha f) (hb f)
  have h2 : ∀ f ∈ b ++ a, 1 ≤ f.2 := fun f hf => (List.mem_append.1 hf).elim (hb f) (ha f)
  rw [sumF_nrm h1, sumF_nrm h2, foldN_append]
/-- How great the parts of a sum can be. -/
theorem step_bound {s : Nat × Nat} {k : Nat} (h0 : 0 < s.2) (h1 : s.2 ≤ 100 ^ k) (h2 : s.1 ≤ k * s.2) {f : FR} (hf : wtB f = true) :
    0 < (addN s f).2 ∧ (addN s f).2 ≤ 100 ^ (k + 1) ∧ (addN s f).1 ≤ (k + 1) * (addN s f).2 := by
  obtain ⟨a, b, c, d, e⟩ := (wtB_iff f).1 hf
  refine ⟨addN_den h0 a, ?_, ?_⟩
  · show s.2 * f.2.toNat ≤ _
    rw [Nat.pow_succ]
    exact Nat.mul_le_mul h1 (by omega)
  · show s.1 * f.2.toNat + f.1.toNat * s.2 ≤ (k + 1) * (s.2 * f.2.toNat)
    have h3 : s.1 * f.2.toNat ≤ k * s.2 * f.2.toNat := Nat.mul_le_mul_right _ h2
    have h4 : f.1.toNat * s.2 ≤ s.2 * f.2.toNat := by rw [Nat.mul_comm]; exact Nat.mul_le_mul_left _ (by omega)
    rw [Nat.add_mul, Nat.one_mul, ← Nat.mul_assoc]
    omega
theorem nrm_bound {s : Nat × Nat} {k : Nat} (h0 : 0 < s.2) (h1 : s.2 ≤ 100 ^ k) (h2 : s.1 ≤ k * s.2) : 0 < (nrm s).2 ∧ (nrm s).2 ≤ 100 ^ k ∧ (nrm s).1 ≤ k * (nrm s).2 := by
  obtain ⟨g, hg, e⟩ := nrm_fold h0
  refine ⟨nrm_den h0, Nat.le_trans (Nat.div_le_self _ _) h1, ?_⟩
  rw [e] at h2
  generalize nrm s = t at h2 ⊢
  have h3 : g * t.1 ≤ g * (k * t.2) := by rw [Nat.mul_left_comm]; exact h2
  exact Nat.le_of_mul_le_mul_left h3 hg
theorem sumF_bound : ∀ (l : List FR) (s : Nat × Nat) (k : Nat), 0 < s.2 → s.2 ≤ 100 ^ k → s.1 ≤ k * s.2 → (∀ f ∈ l, wtB f = true) → 0 < (l.foldl stepF s).2 ∧ (l.foldl stepF s).2 ≤ 100 ^ (k + l.length) ∧ (l.foldl stepF s).1 ≤ (k + l.length) * (l.foldl stepF s).2
  | [], s, k, h0, h1, h2, _ => ⟨h0, h1, h2⟩
  | f :: l, s, k, h0, h1, h2, hl => by
    obtain ⟨a, b, c⟩ := step_bound h0 h1 h2 (hl f (.head _))
    obtain ⟨a', b', c'⟩ := nrm_bound a b c
    have := sumF_bound l (stepF s f) (k + 1) a' b' c' (fun g hg => hl g (.tail _ hg))
    rw [List.foldl_cons, List.length_cons, show k + (l.length + 1) = k + 1 + l.length by omega]
    exact this
/-- A sum of more is not less. -/
theorem foldN_le : ∀ (l : List FR) (s : Nat × Nat), 0 < s.2 → (∀ f ∈ l, 1 ≤ f.2) → s.1 * (l.foldl addN s).2 ≤ (l.foldl addN s).1 * s.2
  | [], s, _, _ => Nat.le_refl _
  | f :: l, s, h0, hl => by
    have h1 := foldN_le l (addN s f) (addN_den h0 (hl f (.head _))) (fun g hg => hl g (.tail _ hg))
    rw [List.foldl_cons]
    generalize l.foldl addN (addN s f) = t at h1 ⊢
    have hd : 1 ≤ f.2 := hl f (.head _)
    have h2 : s.1 * f.2.toNat * t.2 ≤ t.1 * (s.2 * f.2.toNat) := Nat.le_trans (Nat.mul_le_mul_right _ (Nat.le_add_right _ _)) h1
    have h3 : f.2.toNat * (s.1 * t.2) ≤ f.2.toNat * (t.1 * s.2) := by
      rw [show f.2.toNat * (s.1 * t.2) = s.1 * f.2.toNat * t.2 by rw [Nat.mul_left_comm, Nat.mul_assoc], show f.2.toNat * (t.1 * s.2) = t.1 * (s.2 * f.2.toNat) by rw [Nat.mul_left_comm, Nat.mul_comm f.2.toNat]]
      exact h2
    exact Nat.le_of_mul_le_mul_left h3 (by omega)
theorem cross_nrm {s t : Nat × Nat} (hs : 0 < s.2) (ht : 0 < t.2) (h : s.1 * t.2 ≤ t.1 * s.2) : (nrm s).1 * (nrm t).2 ≤ (nrm t).1 * (nrm s).2 := by
  obtain ⟨g, hg, e⟩ := nrm_fold hs
  obtain ⟨k, hk, e'⟩ := nrm_fold ht
  rw [e, e'] at h
  generalize nrm s = a at h ⊢
  generalize nrm t = b at h ⊢
  have h2 : g * k * (a.1 * b.2) ≤ g * k * (b.1 * a.2) := by
    have e1 : g * a.1 * (k * b.2) = g * k * (a.1 * b.2) := Nat.mul_mul_mul_comm _ _ _ _
    have e2 : k * b.1 * (g * a.2) = g * k * (b.1 * a.2) := by rw [Nat.mul_mul_mul_comm, Nat.mul_comm k g]
    rw [← e1, ← e2]; exact h
  exact Nat.le_of_mul_le_mul_left h2 (Nat.mul_pos hg hk)
theorem sumF_le {a b : List FR} (ha : ∀ f ∈ a, 1 ≤ f.2) (hb : ∀ f ∈ b, 1 ≤ f.2) : (sumF a).1 * (sumF (a ++ b)).2 ≤ (sumF (a ++ b)).1 * (sumF a).2 := by
  have h1 : ∀ f ∈ a ++ b, 1 ≤ f.2 := fun f hf => (List.mem_append.1 hf).elim (ha f) (hb f)
  rw [sumF_nrm ha, sumF_nrm h1]
  refine cross_nrm (foldN_den a _ (by decide) ha) (foldN_den _ _ (by decide) h1) ?_
  rw [List.foldl_append]
  exact foldN_le b _ (foldN_den a _ (by decide) ha) hb
/-- At least one. -/
theorem div_le {a b c d : Nat} (hb : 0 < b) (hd : 0 < d) (h : a * d ≤ c * b) : a / b ≤ c / d := by
  rw [Nat.le_div_iff_mul_le hd]
  have h1 : a / b * b ≤ a := Nat.div_mul_le_self a b
  have h2 : a / b * d * b ≤ c * b := by
    rw [Nat.mul_right_comm]
    exact Nat.le_trans (Nat.mul_le_mul_right d h1) h
  exact Nat.le_of_mul_le_mul_right h2 hb
/-- The error of Sum. -/
def sumE (l : List FR) : Int := if 8 < l.length then 3 else if l.all wtB then 0 else 2
def oneB (l : List FR) : Bool := (sumE l == 0) && decide ((sumF l).2 ≤ (sumF l).1)
end Go.Proofs.Ytefhhfpdponabaa
