/- Which texts may stand in a node; what is valid UTF-8 stays so under more valid text. No program. -/
import Derived.Test.YthcgkkafbobfoaaDoorNshape
import Derived.Lib.ValidLaws
namespace Go.Proofs.YthcgkkafbobfoaaDoor
open Go.Lib
set_option linter.unusedVariables false

theorem checkN_more {n n' b1 b2 b3 c1 c2 c3 sz lo hi k : Nat} (h : checkN n b1 b2 b3 sz lo hi = some k) (hn : n ≤ n') (h1 : 1 < k → c1 = b1) (h2 : 2 < k → c2 = b2) (h3 : 3 < k → c3 = b3) : checkN n' c1 c2 c3 sz lo hi = some k ∧ k ≤ n ∧ 2 ≤ k := by
  unfold checkN at h ⊢
  split at h
  · split at h
    · cases h
    · cases h
      rename_i e1 e2
      have := h1 (by decide)
      rw [if_pos e1, if_neg (by omega)]
      exact ⟨rfl, by omega, by omega⟩
  · split at h
    · split at h
      · cases h
      · cases h
        rename_i e0 e1 e2
        have := h1 (by decide)
        have := h2 (by decide)
        rw [if_neg e0, if_pos e1, if_neg (by omega)]
        exact ⟨rfl, by omega, by omega⟩
    · split at h
      · split at h
        · cases h
        · cases h
          rename_i e0 e1 e2 e3
          have := h1 (by decide)
          have := h2 (by decide)
          have := h3 (by decide)
          rw [if_neg e0, if_neg e1, if_pos e2, if_neg (by omega)]
          exact ⟨rfl, by omega, by omega⟩
      · cases h
/-- What is valid stays so under whatever stands behind it. -/
theorem validD_app : ∀ (n : Nat) (l m : List UInt8), l.length ≤ n → validD l = true → validD (l ++ m) = validD m
  | n, [], m, _, _ => rfl
  | 0, b :: t, m, hn, _ => by simp at hn
  | n + 1, b :: t, m, hn, h => by
    by_cases hb : b.toNat < 128
    · rw [validD_cons b t hb] at h
      show validD (b :: (t ++ m)) = _
      rw [validD_cons b _ hb]
      exact validD_app n t m (by simpa using hn) h
    · have e := validD_lead (b :: t) (by simp) (by show 128 ≤ b.toNat; omega)
      rw [h] at e
      split at e
      · cases e
      · rename_i k hk
        have hg : ∀ i, i < (b :: t).length → ((b :: t) ++ m).getD i 0 = (b :: t).getD i 0 := fun i hi => by
          simp only [List.getD_eq_getElem?_getD]; rw [List.getElem?_append_left hi]
        have hkn : k ≤ (b :: t).length := (checkN_more hk (Nat.le_refl _) (fun _ => rfl) (fun _ => rfl) (fun _ => rfl)).2.1
        obtain ⟨q1, q2, q3⟩ := checkN_more (n' := ((b :: t) ++ m).length) hk (by simp) (c1 := (((b :: t) ++ m).getD 1 0).toNat) (c2 := (((b :: t) ++ m).getD 2 0).toNat) (c3 := (((b :: t) ++ m).getD 3 0).toNat) (fun hk => by rw [hg 1 (by omega)]) (fun hk => by rw [hg 2 (by omega)]) (fun hk => by rw [hg 3 (by omega)])
        have e2 := validD_lead ((b :: t) ++ m) (by simp) (by show 128 ≤ b.toNat; omega)
        rw [hg 0 (by simp)] at e2
        rw [q1] at e2
        rw [e2]
        show validD (((b :: t) ++ m).drop k) = _
        rw [List.drop_append_of_le_length q2]
        exact validD_app n _ m (by rw [List.length_drop]; omega) e.symm
theorem valid_app {s t : ByteArray} (hs : validD s.data.toList = true) (ht : validD t.data.toList = true) : validD (s ++ t).data.toList = true := by
  have e : (s ++ t).data.toList = s.data.toList ++ t.data.toList := by simp
  rw [e, validD_app _ _ _ (Nat.le_refl _) hs]; exact ht
/-- A text that may stand in a node. -/
def textOk (s : ByteArray) : Bool := decide (s.size ≤ 65536) && validD s.data.toList

end Go.Proofs.YthcgkkafbobfoaaDoor
