/- The document's reader of the second serialisation: texts. Then: The second serialisation as data: what is read of a node, head, names, items. No program. -/
import Derived.Test.YtdppdonaojdceaaDoorCrd
namespace Go.Proofs.YtdppdonaojdceaaDoor
open Go Go.ChangeShapes Go.WideShapes Go.ChangeAt Go.RowKit
set_option linter.unusedVariables false
set_option linter.unusedSimpArgs false

end Go.Proofs.YtdppdonaojdceaaDoor

namespace Go.Proofs.YtdppdonaojdceaaDoor
set_option linter.unusedVariables false
set_option linter.unusedSimpArgs false

/-- From p on stands the node y, then t. -/
def CIs (d : Nat) (l : List UInt8) (p : Nat) (y : ND) (t : List UInt8) : Prop := validN d y = true ∧ numsB d y = true ∧ l.drop p = writeC d y ++ t
theorem cmaj_cases {d : Nat} {y : ND} (h : validN (d + 1) y = true) (hn : numsB (d + 1) y = true) :
    (cMaj y = 7 ∧ 20 ≤ cCnt y ∧ cCnt y ≤ 22) ∨ (cMaj y = 0 ∧ cCnt y ≤ 9223372036854775807 ∧ y = .mk 2 false (cCnt y : Int) ⟨#[]⟩ [] []) ∨ (cMaj y = 1 ∧ cCnt y ≤ 9223372036854775807 ∧ y = .mk 2 false (-1 - (cCnt y : Int)) ⟨#[]⟩ [] []) ∨ (cMaj y = 3 ∧ y.text.size ≤ 65536 ∧ y = .mk 3 false 0 y.text [] [] ∧ writeC (d + 1) y = cText y.text) ∨ (cMaj y = 4 ∧ cCnt y = y.items.length ∧ y.items.length ≤ 256 ∧ y = .mk 4 false 0 ⟨#[]⟩ [] y.items) ∨ (cMaj y = 5 ∧ cCnt y = y.items.length ∧ y.items.length ≤ 256 ∧ y = .mk 5 false 0 ⟨#[]⟩ y.names y.items ∧ y.names.length = y.items.length) := by
  obtain ⟨-, hl, htx, -⟩ := validN_parts h
  obtain ⟨hw, -⟩ := numsB_parts hn
  have h6 := textOk_le htx
  have hk := kinds h
  unfold wideI at hw
  rw [Bool.and_eq_true, decide_eq_true_eq, decide_eq_true_eq] at hw
  obtain ⟨k, b, n, tt, ns, its⟩ := y
  unfold nd0 at hk
  simp only [ND.mk.injEq, ND.kind, ND.bool, ND.num, ND.text, ND.names, ND.items] at *
  rcases hk with ⟨rfl, rfl, rfl, rfl, rfl, rfl⟩ | ⟨rfl, -, rfl, rfl, rfl, rfl⟩ | ⟨rfl, rfl, -, rfl, rfl, rfl⟩ | ⟨rfl, rfl, rfl, -, rfl, rfl⟩ | ⟨rfl, rfl, rfl, rfl, rfl, -⟩ | ⟨⟨rfl, rfl, rfl, rfl, -, -⟩, hlx⟩
  · left; simp [cMaj, cCnt, ND.kind]
  · left; cases b <;> simp [cMaj, cCnt, ND.kind, ND.bool]
  · right
    by_cases hq : n < 0
    · right; left; simp [cMaj, cCnt, ND.kind, ND.num, hq]; omega
    · left; simp [cMaj, cCnt, ND.kind, ND.num, hq]; omega
  · right; right; right; left
    refine ⟨rfl, h6, by simp, ?_⟩
    rw [writeC_succ]; simp [bodyC, cMaj, cCnt, cText, ND.kind, ND.text]
  · right; right; right; right; left; exact ⟨rfl, rfl, hl, by simp⟩
  · right; right; right; right; right; exact ⟨rfl, rfl, hl, by simp, hlx⟩
theorem vhead {d : Nat} {l : List UInt8} {p m n : Nat} {q : Int} (hat : HeadAt l p m n q) {y : ND} {t : List UInt8} (h : CIs (d + 1) l p y t) : m = cMaj y ∧ n = cCnt y ∧ 0 ≤ q ∧ bodyC d y ++ t = l.drop q.toNat := by
  obtain ⟨h1, h2, h3⟩ := h
  rw [writeC_succ, List.append_assoc] at h3
  exact hat _ _ _ (cMaj_lt y) (cCnt_lt h1 h2) h3
/-- What follows the head of a list or a map. -/
def restC (d : Nat) (k : Int) (ns : List ByteArray) (its : List ND) : List UInt8 := if k = 5 then (List.zipWith (fun s y => cText s ++ writeC d y) ns its).flatten else its.flatMap (writeC d)
/-- Names and items so far, before a name. -/
def LIs (d : Nat) (k : Int) (n : Nat) (l : List UInt8) (p0 : Nat) (ns : List ByteArray) (X : List ND) (p : Nat) : Prop := ∀ y t, CIs (d + 1) l p0 y t → y = .mk k false 0 ⟨#[]⟩ y.names y.items ∧ y.items.length = n ∧ ∃ its nms, y.items = X ++ its ∧ y.names = ns ++ nms ∧ (k = 5 → nms.length = its.length) ∧ (k ≠ 5 → nms = []) ∧ (∀ z, z ∈ its → validN d z = true ∧ numsB d z = true) ∧ (∀ z, z ∈ nms → z.size ≤ 65536) ∧ l.drop p = restC d k nms its ++ t
/-- Names and items so far, before an item. -/
def VIs (d : Nat) (k : Int) (n : Nat) (l : List UInt8) (p0 : Nat) (ns : List ByteArray) (X : List ND) (p : Nat) : Prop := ∀ y t, CIs (d + 1) l p0 y t → y = .mk k false 0 ⟨#[]⟩ y.names y.items ∧ y.items.length = n ∧ ∃ i its nms, y.items = X ++ i :: its ∧ y.names = ns ++ nms ∧ (k = 5 → nms.length = its.length) ∧ (k ≠ 5 → nms = []) ∧ (∀ z, z ∈ i :: its → validN d z = true ∧ numsB d z = true) ∧ (∀ z, z ∈ nms → z.size ≤ 65536) ∧ l.drop p = writeC d i ++ (restC d k nms its ++ t)
theorem LIs.start {d : Nat} {l : List UInt8} {p m n q : Nat} (hat : HeadAt l p m n (q : Int)) (hm : m = 4 ∨ m = 5) : LIs d (m : Int) n l p [] [] q := by
  intro y t h
  obtain ⟨h1, h2, -, h4⟩ := vhead hat h
  obtain ⟨hi, -, -, hns⟩ := validN_parts h.1
  obtain ⟨-, hni⟩ := numsB_parts h.2.1
  rw [Int.toNat_natCast] at h4
  rcases cmaj_cases h.1 h.2.1 with ⟨c1, -⟩ | ⟨c1, -⟩ | ⟨c1, -⟩ | ⟨c1, -⟩ | ⟨c1, c2, c3, c4⟩ | ⟨c1, c2, c3, c4, c5⟩
  · omega
  · omega
  · omega
  · omega
  · have hm4 : m = 4 := by omega
    subst hm4
    have hnn : y.names = [] := by rw [c4]; rfl
    refine ⟨by rw [hnn]; exact c4, by omega, y.items, [], rfl, hnn, fun h => by omega, fun _ => rfl, fun z hz => ⟨hi z hz, hni z hz⟩, fun z hz => by simp at hz, ?_⟩
    rw [← h4]
    have hk : y.kind = 4 := by rw [c4]; rfl
    unfold bodyC restC
    rw [hk]; rfl
  · have hm5 : m = 5 := by omega
    subst hm5
    refine ⟨c4, by omega, y.items, y.names, rfl, rfl, fun _ => c5, fun h => absurd rfl h, fun z hz => ⟨hi z hz, hni z hz⟩, fun z hz => textOk_le (hns z hz), ?_⟩
    rw [← h4]
    have hk : y.kind = 5 := by rw [c4]; rfl
    unfold bodyC restC
    rw [hk]; rfl
theorem LIs.more {d : Nat} {k : Int} {n : Nat} {l : List UInt8} {p0 p : Nat} {ns : List ByteArray} {X : List ND} (h : LIs d k n l p0 ns X p) (hk : k ≠ 5) (hX : X.length < n) : VIs d k n l p0 ns X p := by
  intro y t hy
  obtain ⟨h1, h2, its, nms, h3, h4, h5, h6, h7, h8, h9⟩ := h y t hy
  cases its with
  | nil => rw [h3, List.append_nil] at h2; omega
  | cons i its =>
    refine ⟨h1, h2, i, its, nms, h3, h4, fun h => absurd h hk, h6, h7, h8, ?_⟩
    rw [h9]
    unfold restC
    rw [if_neg hk, if_neg hk, List.flatMap_cons, List.append_assoc]
theorem LIs.text {d : Nat} {k : Int} {n : Nat} {l : List UInt8} {p0 p : Nat} {ns : List ByteArray} {X : List ND} (h : LIs d k n l p0 ns X p) (hk : k = 5) (hX : X.length < n) {o : ByteArray} {q : Int} (ht : ∀ z t, z.size ≤ 65536 → l.drop p = cText z ++ t → o = z ∧ 0 ≤ q ∧ t = l.drop q.toNat) : (q < 0 → ∀ y t, ¬ CIs (d + 1) l p0 y t) ∧ VIs d k n l p0 (ns ++ [o]) X q.toNat := by
  have main : ∀ y t, CIs (d + 1) l p0 y t → 0 ≤ q ∧ (y = .mk k false 0 ⟨#[]⟩ y.names y.items ∧ y.items.length = n ∧ ∃ i its nms, y.items = X ++ i :: its ∧ y.names = ns ++ [o] ++ nms ∧ (k = 5 → nms.length = its.length) ∧ (k ≠ 5 → nms = []) ∧ (∀ z, z ∈ i :: its → validN d z = true ∧ numsB d z = true) ∧ (∀ z, z ∈ nms → z.size ≤ 65536) ∧ l.drop q.toNat = writeC d i ++ (restC d k nms its ++ t)) := by
    intro y t hy
    obtain ⟨h1, h2, its, nms, h3, h4, h5, h6, h7, h8, h9⟩ := h y t hy
    cases its with
    | nil => rw [h3, List.append_nil] at h2; omega
    | cons i its =>
      cases nms with
      | nil => have := h5 hk; simp at this
      | cons m nms =>
        unfold restC at h9
        rw [if_pos hk, List.zipWith_cons_cons, List.flatten_cons, List.append_assoc, List.append_assoc] at h9
        obtain ⟨e1, e2, e3⟩ := ht m _ (h8 m (by simp)) h9
        subst e1
        refine ⟨e2, h1, h2, i, its, nms, h3, by rw [h4]; simp, fun h => by have := h5 h; simpa using this, fun h => absurd hk h, h7, fun z hz => h8 z (by simp [hz]), ?_⟩
        rw [← e3]
        unfold restC
        rw [if_pos hk]
  exact ⟨fun hq y t hy => by have := (main y t hy).1; omega, fun y t hy => (main y t hy).2⟩
theorem VIs.item {d : Nat} {k : Int} {n : Nat} {l : List UInt8} {p0 p : Nat} {ns : List ByteArray} {X : List ND} (h : VIs d k n l p0 ns X p) {x : ND} {q : Int} (ht : ∀ z t, CIs d l p z t → x = z ∧ 0 ≤ q ∧ t = l.drop q.toNat) : (q < 0 → ∀ y t, ¬ CIs (d + 1) l p0 y t) ∧ LIs d k n l p0 ns (X ++ [x]) q.toNat := by
  have main : ∀ y t, CIs (d + 1) l p0 y t → 0 ≤ q ∧ (y = .mk k false 0 ⟨#[]⟩ y.names y.items ∧ y.items.length = n ∧ ∃ its nms, y.items = X ++ [x] ++ its ∧ y.names = ns ++ nms ∧ (k = 5 → nms.length = its.length) ∧ (k ≠ 5 → nms = []) ∧ (∀ z, z ∈ its → validN d z = true ∧ numsB d z = true) ∧ (∀ z, z ∈ nms → z.size ≤ 65536) ∧ l.drop q.toNat = restC d k nms its ++ t) := by
    intro y t hy
    obtain ⟨h1, h2, i, its, nms, h3, h4, h5, h6, h7, h8, h9⟩ := h y t hy
    have hi := h7 i (by simp)
    obtain ⟨e1, e2, e3⟩ := ht i _ ⟨hi.1, hi.2, h9⟩
    subst e1
    exact ⟨e2, h1, h2, its, nms, by rw [h3]; simp, h4, h5, h6, fun z hz => h7 z (by simp [hz]), h8, e3.symm⟩
  exact ⟨fun hq y t hy => by have := (main y t hy).1; omega, fun y t hy => (main y t hy).2⟩
theorem LIs.done {d : Nat} {k : Int} {n : Nat} {l : List UInt8} {p0 p : Nat} {ns : List ByteArray} {X : List ND} (h : LIs d k n l p0 ns X p) (hX : X.length = n) : ∀ y t, CIs (d + 1) l p0 y t → (.mk k false 0 ⟨#[]⟩ ns X) = y ∧ t = l.drop p := by
  intro y t hy
  obtain ⟨h1, h2, its, nms, h3, h4, h5, h6, h7, h8, h9⟩ := h y t hy
  have hn : its = [] := by
    rw [h3, List.length_append] at h2
    exact List.length_eq_zero_iff.1 (by omega)
  subst hn
  have hm : nms = [] := by
    by_cases hk : k = 5
    · exact List.length_eq_zero_iff.1 (h5 hk)
    · exact h6 hk
  subst hm
  rw [List.append_nil] at h3 h4
  refine ⟨by rw [h1, h3, h4], ?_⟩
  rw [h9]
  unfold restC
  split <;> rfl
/-- A leaf that is told by its first byte. -/
theorem leaf_first {d : Nat} {l : List UInt8} {p : Nat} {c : UInt8} (hc : l[p]? = some c) {x : ND} (hv : validN (d + 1) x = true) (hn : numsB (d + 1) x = true) (hw : writeC (d + 1) x = [c]) : ∀ y t, CIs (d + 1) l p y t → x = y ∧ t = l.drop (p + 1) := by
  intro y t ⟨h1, h2, h3⟩
  rw [cdrop_at hc] at h3
  have h4 : writeC (d + 1) x ++ l.drop (p + 1) = writeC (d + 1) y ++ t := by rw [hw, ← h3]; rfl
  obtain ⟨e1, e2⟩ := writeC_app_inj (d + 1) x y _ _ hv hn h1 h2 h4
  exact ⟨e1, e2.symm⟩
/-- What is neither true nor false nor null has another head. -/
theorem not_seven {d : Nat} {l : List UInt8} {p : Nat} {c : UInt8} (hc : l[p]? = some c) (h4 : c ≠ 244) (h5 : c ≠ 245) (h6 : c ≠ 246) {y : ND} {t : List UInt8} (h : CIs (d + 1) l p y t) : cMaj y ≠ 7 := by
  intro h7
  obtain ⟨h1, h2, h3⟩ := h
  rw [writeC_succ, List.append_assoc] at h3
  obtain ⟨e1, e2, -⟩ := head_first hc (cMaj_lt y) h3
  rcases cmaj_cases h1 h2 with ⟨c1, c2, c3⟩ | ⟨c1, -⟩ | ⟨c1, -⟩ | ⟨c1, -⟩ | ⟨c1, -⟩ | ⟨c1, -⟩
  · have hv : headV (cCnt y) = cCnt y := by unfold headV; rw [if_pos (by omega)]
    have : c.toNat = 244 ∨ c.toNat = 245 ∨ c.toNat = 246 := by omega
    rcases this with h | h | h
    · exact h4 (UInt8.toNat_inj.1 h)
    · exact h5 (UInt8.toNat_inj.1 h)
    · exact h6 (UInt8.toNat_inj.1 h)
  all_goals omega
end Go.Proofs.YtdppdonaojdceaaDoor
