/- The heaviest weights first: as many of them as reach one are the least number of keys; several lists one after the other. -/
import Derived.Test.YtefhhfpdponabaaTset
namespace Go.Proofs.Ytefhhfpdponabaa
open Go
set_option linter.unusedVariables false
set_option linter.unusedSimpArgs false

/-- A number that all denominators divide. -/
theorem has_KF : ∃ K : Nat, 0 < K ∧ ∀ d, 1 ≤ d → d ≤ 100 → d ∣ K := by
  have all : ∀ d : Fin 101, 1 ≤ d.1 → 69720375229712477164533808935312303556800 % d.1 = 0 := by decide +kernel
  exact ⟨69720375229712477164533808935312303556800, by decide, fun d h1 h2 => Nat.dvd_of_mod_eq_zero (all ⟨d, by omega⟩ h1)⟩
noncomputable def KF : Nat := Classical.choose has_KF
theorem KF_div (d : Nat) (h1 : 1 ≤ d) (h2 : d ≤ 100) : d ∣ KF := (Classical.choose_spec has_KF).2 d h1 h2
theorem KF_pos : 0 < KF := (Classical.choose_spec has_KF).1
/-- A weight, in parts of one. -/
noncomputable def vF (f : FR) : Nat := f.1.toNat * (KF / f.2.toNat)
theorem vF_mul {f : FR} (h : wtB f = true) : vF f * f.2.toNat = f.1.toNat * KF := by
  obtain ⟨a, b, c, d, e⟩ := (wtB_iff f).1 h
  unfold vF
  rw [Nat.mul_assoc, Nat.div_mul_cancel (KF_div _ (by omega) (by omega))]
noncomputable def sumV (l : List FR) : Nat := (l.map vF).sum
theorem sumV_cons (f : FR) (l : List FR) : sumV (f :: l) = vF f + sumV l := by simp [sumV]
theorem sumV_perm {a b : List FR} (h : a.Perm b) : sumV a = sumV b := (h.map vF).sum_nat
theorem fold_v : ∀ (l : List FR) (s : Nat × Nat) (V : Nat), (∀ f ∈ l, wtB f = true) → s.1 * KF = s.2 * V → (l.foldl addN s).1 * KF = (l.foldl addN s).2 * (V + sumV l)
  | [], s, V, _, h => by
    show s.1 * KF = s.2 * (V + 0)
    rw [Nat.add_zero]; exact h
  | f :: l, s, V, hl, h => by
    rw [sumV_cons, ← Nat.add_assoc]
    refine fold_v l (addN s f) (V + vF f) (fun g hg => hl g (.tail _ hg)) ?_
    show (s.1 * f.2.toNat + f.1.toNat * s.2) * KF = s.2 * f.2.toNat * (V + vF f)
    have hv := vF_mul (hl f (.head _))
    generalize f.1.toNat = n at hv ⊢
    generalize f.2.toNat = d at hv ⊢
    generalize vF f = v at hv ⊢
    rw [Nat.add_mul, Nat.mul_add]
    have e1 : s.1 * d * KF = s.2 * d * V := by rw [Nat.mul_right_comm, h, Nat.mul_right_comm]
    have e2 : n * s.2 * KF = s.2 * d * v := by rw [Nat.mul_right_comm, ← hv, Nat.mul_comm (v * d), Nat.mul_comm v d, Nat.mul_assoc]
    rw [e1, e2]
theorem oneB_v {l : List FR} (h : wts l) : oneB l = decide (KF ≤ sumV l) := by
  rw [Bool.eq_iff_iff, oneB_iff, decide_eq_true_eq]
  have hd := foldN_den l (0, 1) (by decide) h.den
  have hf := fold_v l (0, 1) 0 h.2 (by rw [Nat.zero_mul, Nat.mul_zero])
  rw [sumF_nrm h.den]
  obtain ⟨g, hg, e⟩ := nrm_fold hd
  generalize l.foldl addN (0, 1) = F at hf hd e ⊢
  have e1 : F.1 = g * (nrm F).1 := congrArg Prod.fst e
  have e2 : F.2 = g * (nrm F).2 := congrArg Prod.snd e
  rw [e1, e2] at hf
  rw [e2] at hd
  clear e e1 e2
  generalize nrm F = t at hf hd ⊢
  rw [Nat.zero_add] at hf
  have ht : 0 < t.2 := Nat.pos_of_mul_pos_left hd
  have hf2 : t.1 * KF = t.2 * sumV l := by
    have : g * (t.1 * KF) = g * (t.2 * sumV l) := by rw [← Nat.mul_assoc, ← Nat.mul_assoc]; exact hf
    exact Nat.eq_of_mul_eq_mul_left hg this
  have hK := KF_pos
  constructor
  · rintro ⟨-, h1⟩
    have : t.2 * KF ≤ t.2 * sumV l := by rw [← hf2]; exact Nat.mul_le_mul_right _ h1
    exact Nat.le_of_mul_le_mul_left this ht
  · intro h1
    refine ⟨h, ?_⟩
    have : t.2 * KF ≤ t.1 * KF := by rw [hf2]; exact Nat.mul_le_mul_left _ h1
    exact Nat.le_of_mul_le_mul_right this hK
theorem wts_perm {a b : List FR} (h : a.Perm b) (hw : wts b) : wts a := ⟨by rw [h.length_eq]; exact hw.1, fun f hf => hw.2 f (h.mem_iff.1 hf)⟩
theorem wts_take {a : List FR} (hw : wts a) (k : Nat) : wts (a.take k) := ⟨by have := hw.1; rw [List.length_take]; omega, fun f hf => hw.2 f (List.mem_of_mem_take hf)⟩
theorem oneB_perm {a b : List FR} (h : a.Perm b) (hw : wts b) : oneB a = oneB b := by rw [oneB_v (wts_perm h hw), oneB_v hw, sumV_perm h]
/-- Heaviest first. -/
def Desc (s : List FR) : Prop := s.Pairwise fun a b => vF b ≤ vF a
theorem take_le_cons {x : FR} {s : List FR} (h : ∀ y ∈ s, vF y ≤ vF x) : ∀ c, sumV (s.take (c + 1)) ≤ vF x + sumV (s.take c) := by
  intro c
  rw [List.take_add_one]
  have : sumV (s.take c ++ s[c]?.toList) = sumV (s.take c) + sumV s[c]?.toList := by unfold sumV; rw [List.map_append, List.sum_append]
  rw [this]
  cases e : s[c]? with
  | none => simp [sumV]
  | some y =>
    have := h y (List.mem_of_getElem? e)
    show _ + sumV [y] ≤ _
    rw [sumV_cons]
    simp only [sumV, List.map_nil, List.sum_nil]
    omega
theorem sub_take {t s : List FR} (h : t.Sublist s) : Desc s → sumV t ≤ sumV (s.take t.length) := by
  induction h with
  | slnil => intro _; simp
  | @cons t s x h ih =>
    intro hd
    unfold Desc at hd
    rw [List.pairwise_cons] at hd
    have h1 := ih hd.2
    cases t with
    | nil => simp [sumV]
    | cons y t =>
      rw [List.length_cons, List.take_succ_cons, sumV_cons x]
      rw [List.length_cons] at h1
      exact Nat.le_trans h1 (take_le_cons hd.1 _)
  | @cons_cons t s x h ih =>
    intro hd
    unfold Desc at hd
    rw [List.pairwise_cons] at hd
    rw [List.length_cons, List.take_succ_cons, sumV_cons, sumV_cons]
    have := ih hd.2
    omega
theorem perm_sub {a b : List FR} (h : a.Perm b) : ∀ t : List FR, t.Sublist a → ∃ t' : List FR, t'.Perm t ∧ t'.Sublist b := by
  induction h with
  | nil => intro t ht; exact ⟨t, .refl _, ht⟩
  | @cons x a b h ih =>
    intro t ht
    cases ht with
    | cons _ ht => obtain ⟨t', h1, h2⟩ := ih _ ht; exact ⟨t', h1, h2.cons _⟩
    | cons_cons _ ht => obtain ⟨t', h1, h2⟩ := ih _ ht; exact ⟨x :: t', h1.cons _, h2.cons_cons _⟩
  | @swap x y l =>
    intro t ht
    cases ht with
    | cons _ ht =>
      cases ht with
      | cons _ ht => exact ⟨_, .refl _, (ht.cons _).cons _⟩
      | cons_cons _ ht => exact ⟨_, .refl _, (ht.cons _).cons_cons _⟩
    | cons_cons _ ht =>
      cases ht with
      | cons _ ht => exact ⟨_, .refl _, (ht.cons_cons _).cons _⟩
      | cons_cons _ ht => exact ⟨_, .swap _ _ _, (ht.cons_cons _).cons_cons _⟩
  | @trans a b c h1 h2 ih1 ih2 =>
    intro t ht
    obtain ⟨t', p1, s1⟩ := ih1 t ht
    obtain ⟨t'', p2, s2⟩ := ih2 t' s1
    exact ⟨t'', p2.trans p1, s2⟩
theorem pick_sub (p : Nat → Bool) : ∀ (l : List FR) (k : Nat), (pick p k l).Sublist l
  | [], _ => .slnil
  | f :: l, k => by
    unfold pick
    split
    · exact (pick_sub p l (k + 1)).cons_cons f
    · exact (pick_sub p l (k + 1)).cons f
theorem cnt_one (q : Nat → Bool) : cnt q 1 = if q 0 = true then 1 else 0 := by
  unfold cnt
  rw [show List.range 1 = [0] from rfl]
  by_cases h : q 0 = true
  · rw [List.filter_cons_of_pos h, if_pos h]; rfl
  · rw [List.filter_cons_of_neg h, if_neg h]; rfl
theorem pick_cnt (p : Nat → Bool) : ∀ (l : List FR) (k : Nat), (pick p k l).length = cnt (fun i => p (k + i)) l.length
  | [], _ => rfl
  | f :: l, k => by
    unfold pick
    rw [List.length_cons, Nat.add_comm l.length 1, cnt_add, cnt_one]
    have e : cnt (fun i => (fun i => p (k + i)) (1 + i)) l.length = cnt (fun i => p (k + 1 + i)) l.length := cnt_ext _ (fun i _ => by show p (k + (1 + i)) = p (k + 1 + i); rw [Nat.add_assoc])
    rw [e, ← pick_cnt p l (k + 1)]
    show (if p k = true then f :: pick p (k + 1) l else pick p (k + 1) l).length = (if p k = true then 1 else 0) + _
    by_cases h : p k = true
    · rw [if_pos h, if_pos h, List.length_cons, Nat.add_comm]
    · rw [if_neg h, if_neg h, Nat.zero_add]
theorem pick_of_sub {t l : List FR} (h : t.Sublist l) : ∀ k, ∃ p : Nat → Bool, pick p k l = t := by
  induction h with
  | slnil => intro k; exact ⟨fun _ => true, rfl⟩
  | @cons t s x h ih =>
    intro k
    obtain ⟨p, hp⟩ := ih (k + 1)
    refine ⟨fun i => if i = k then false else p i, ?_⟩
    unfold pick
    rw [if_neg (by simp), pick_ext (q := p) s (k + 1) (fun i h1 _ => by rw [if_neg (by omega)]), hp]
  | @cons_cons t s x h ih =>
    intro k
    obtain ⟨p, hp⟩ := ih (k + 1)
    refine ⟨fun i => if i = k then true else p i, ?_⟩
    unfold pick
    rw [if_pos (by simp), pick_ext (q := p) s (k + 1) (fun i h1 _ => by rw [if_neg (by omega)]), hp]
theorem bits_of (p : Nat → Bool) : ∀ n, ∃ m, m < 2 ^ n ∧ ∀ i, i < n → bitB m i = p i
  | 0 => ⟨0, by decide, fun i h => absurd h (Nat.not_lt_zero _)⟩
  | n + 1 => by
    obtain ⟨m, h1, h2⟩ := bits_of p n
    obtain ⟨b, hb, hbb⟩ : ∃ b, b < 2 ∧ bitB b 0 = p n := by
      cases p n with
      | true => exact ⟨1, by decide, by decide⟩
      | false => exact ⟨0, by decide, by decide⟩
    refine ⟨m + 2 ^ n * b, ?_, fun i hi => ?_⟩
    · rw [Nat.pow_succ]
      have : 2 ^ n * b ≤ 2 ^ n * 1 := Nat.mul_le_mul_left _ (by omega)
      omega
    · rw [bitB_join m b n i h1]
      by_cases h : i < n
      · rw [if_pos h]; exact h2 i h
      · obtain rfl : i = n := by omega
        rw [if_neg h, Nat.sub_self, hbb]
theorem enB_one (l : List FR) (p : Nat → Bool) : enB 0 [l] p = oneB (pick p 0 l) := by
  unfold enB
  rw [if_neg (by simp)]
  unfold enL enL
  rw [Bool.and_true]
theorem greedy {l s : List FR} {c : Nat} (hw : wts l) (hp : s.Perm l) (hs : Desc s) (h1 : oneB (s.take c) = true) (hc : c ≤ s.length) (h0 : ∀ j, j < c → oneB (s.take j) = false) : IsLeast l.length (fun p => oneB (pick p 0 l)) c := by
  have hws := wts_perm hp hw
  constructor
  · obtain ⟨t, ht, hsub⟩ := perm_sub hp _ (List.take_sublist c s)
    obtain ⟨p, hpk⟩ := pick_of_sub hsub 0
    obtain ⟨m, m1, m2⟩ := bits_of p l.length
    have e : pick (bitB m) 0 l = t := by rw [← hpk]; exact pick_ext l 0 (fun i _ h => m2 i (by omega))
    refine ⟨m, m1, ?_, ?_⟩
    · show oneB (pick (bitB m) 0 l) = true
      rw [e, oneB_perm ht (wts_take hws c)]; exact h1
    · have := pick_cnt (bitB m) l 0
      rw [e, ht.length_eq, List.length_take] at this
      have e2 : cnt (fun i => bitB m (0 + i)) l.length = cnt (bitB m) l.length := cnt_ext _ (fun i _ => by show bitB m (0 + i) = _; rw [Nat.zero_add])
      rw [e2] at this
      omega
  · intro m m1 m2
    have m2' : oneB (pick (bitB m) 0 l) = true := m2
    obtain ⟨t, ht, hsub⟩ := perm_sub hp.symm _ (pick_sub (bitB m) l 0)
    have hlen := pick_cnt (bitB m) l 0
    have e2 : cnt (fun i => bitB m (0 + i)) l.length = cnt (bitB m) l.length := cnt_ext _ (fun i _ => by show bitB m (0 + i) = _; rw [Nat.zero_add])
    rw [e2] at hlen
    have hpw := pick_wts hw (bitB m) 0
    rw [oneB_v hpw, decide_eq_true_eq, ← sumV_perm ht] at m2'
    have h2 := Nat.le_trans m2' (sub_take hsub hs)
    rw [ht.length_eq, hlen] at h2
    rcases Nat.lt_or_ge (cnt (bitB m) l.length) c with h | h
    · have := h0 _ h
      rw [oneB_v (wts_take hws _), decide_eq_false_iff_not] at this
      exact absurd h2 this
    · exact h
theorem least_join {n k : Nat} {P Q R : (Nat → Bool) → Bool} {L1 L2 : Nat} (hR : ∀ p, R p = (P p && Q (fun i => p (n + i)))) (eP : ∀ p q : Nat → Bool, (∀ i, i < n → p i = q i) → P p = P q) (eQ : ∀ p q : Nat → Bool, (∀ i, i < k → p i = q i) → Q p = Q q)
    (h1 : IsLeast n P L1) (h2 : IsLeast k Q L2) : IsLeast (n + k) R (L1 + L2) := by
  obtain ⟨⟨x, x1, x2, x3⟩, x4⟩ := h1
  obtain ⟨⟨y, y1, y2, y3⟩, y4⟩ := h2
  constructor
  · refine ⟨x + 2 ^ n * y, ?_, ?_, ?_⟩
    · rw [Nat.pow_add]
      have : x + 2 ^ n * y < 2 ^ n * (y + 1) := by rw [Nat.mul_add]; omega
      exact Nat.lt_of_lt_of_le this (Nat.mul_le_mul_left _ y1)
    · rw [hR, eP (bitB (x + 2 ^ n * y)) (bitB x) (fun i hi => by rw [bitB_join x y _ i x1, if_pos hi]), x2, Bool.true_and,
        eQ _ (bitB y) (fun i hi => by rw [bitB_join x y _ _ x1, if_neg (by omega), show n + i - n = i by omega]), y2]
    · rw [cnt_add, cnt_ext (q := bitB x) _ (fun i hi => by rw [bitB_join x y _ i x1, if_pos hi]), x3, cnt_ext (q := bitB y) _ (fun i hi => by rw [bitB_join x y _ _ x1, if_neg (by omega), show n + i - n = i by omega]), y3]
  · intro m hm he
    rw [hR, Bool.and_eq_true] at he
    rw [cnt_add]
    have e1 : P (bitB (m % 2 ^ n)) = true := by rw [eP _ (bitB m) (fun i hi => bitB_low m _ i hi)]; exact he.1
    have e2 : Q (bitB (m / 2 ^ n)) = true := by rw [eQ _ (fun i => bitB m (n + i)) (fun i hi => bitB_high m _ i)]; exact he.2
    have g1 := x4 _ (Nat.mod_lt _ (Nat.two_pow_pos _)) e1
    have g2 := y4 _ (by rw [Nat.div_lt_iff_lt_mul (Nat.two_pow_pos _), Nat.mul_comm, ← Nat.pow_add]; exact hm) e2
    rw [cnt_ext (q := bitB m) _ (fun i hi => bitB_low m _ i hi)] at g1
    rw [cnt_ext (q := fun i => bitB m (n + i)) _ (fun i hi => bitB_high m _ i)] at g2
    omega
theorem enL_shift (n : Nat) : ∀ (ws : List (List FR)) (p : Nat → Bool) (k : Nat), enL p (n + k) ws = enL (fun i => p (n + i)) k ws
  | [], _, _ => rfl
  | l :: r, p, k => by
    unfold enL
    rw [pick_shift, Nat.add_assoc, enL_shift n r]
/-- Each list needs keys of its own. -/
theorem least_lists : ∀ (ws : List (List FR)) (L : List FR → Nat), (∀ l ∈ ws, IsLeast l.length (fun p => oneB (pick p 0 l)) (L l)) → IsLeast (lenL ws) (fun p => enL p 0 ws) ((ws.map L).sum)
  | [], _, _ => ⟨⟨0, by decide, rfl, rfl⟩, fun m _ _ => Nat.zero_le _⟩
  | l :: r, L, h => by
    have h2 := least_lists r L (fun x hx => h x (.tail _ hx))
    have h1 := h l (.head _)
    rw [List.map_cons, List.sum_cons]
    refine least_join (P := fun p => oneB (pick p 0 l)) (Q := fun p => enL p 0 r) (fun p => ?_) (fun p q e => ?_) (fun p q e => ?_) h1 h2
    · show enL p 0 (l :: r) = _
      have := enL_shift l.length r p 0
      rw [Nat.add_zero] at this
      show (oneB (pick p 0 l) && enL p (0 + l.length) r) = _
      rw [Nat.zero_add, this]
    · show oneB (pick p 0 l) = oneB (pick q 0 l)
      rw [pick_ext l 0 (fun i _ hi => e i (by omega))]
    · exact enL_ext r 0 (fun i _ hi => e i (by omega))
/-- Without weights the least number is Number. -/
theorem least_number {num : Int} {keys : Nat} (hk : keys ≤ 8) (h0 : 0 ≤ num) (h1 : num ≤ keys) : IsLeast keys (enB num []) num.toNat := by
  have e : ∀ p, enB num [] p = decide (num ≤ (cnt p 8 : Int)) := fun p => by unfold enB; rw [if_pos rfl]
  have low : ∀ m, m < 2 ^ keys → cnt (bitB m) 8 = cnt (bitB m) keys := fun m hm => by
    rw [show 8 = keys + (8 - keys) by omega, cnt_add]
    have : cnt (fun i => bitB m (keys + i)) (8 - keys) = 0 := by
      unfold cnt
      rw [List.length_eq_zero_iff, List.filter_eq_nil_iff]
      intro i _
      rw [bitB_out hm (by omega)]; decide
    rw [this, Nat.add_zero]
  constructor
  · obtain ⟨n, rfl⟩ : ∃ n : Nat, num = (n : Int) := ⟨num.toNat, by omega⟩
    have hp : 2 ^ n ≤ 2 ^ keys := Nat.pow_le_pow_right (by decide) (by omega)
    have hpos := Nat.two_pow_pos n
    have hc : cnt (bitB (2 ^ n - 1)) keys = n := by
      obtain ⟨d, hd⟩ : ∃ d, keys = n + d := ⟨keys - n, by omega⟩
      rw [hd, cnt_add, cnt_all n (fun i hi => bitB_full n i hi)]
      have : cnt (fun i => bitB (2 ^ n - 1) (n + i)) d = 0 := by
        unfold cnt
        rw [List.length_eq_zero_iff, List.filter_eq_nil_iff]
        intro i _
        rw [bitB_out (n := n) (by omega) (by omega)]; decide
      rw [this, Nat.add_zero]
    refine ⟨2 ^ n - 1, by omega, ?_, hc⟩
    rw [e, low _ (by omega), hc, decide_eq_true_eq]
    exact Int.le_refl _
  · intro m hm he
    rw [e, low m hm, decide_eq_true_eq] at he
    omega
end Go.Proofs.Ytefhhfpdponabaa
