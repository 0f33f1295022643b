/- What the program's parser of the third serialisation reads, by what is left: heads, names, items. No program. -/
import Derived.Test.YtdppdonaojdceaaDoorMrv
namespace Go.Proofs.YtdppdonaojdceaaDoor
set_option linter.unusedVariables false
set_option linter.unusedSimpArgs false

/-- On r stands the node y, then t. -/
def MIr (d : Nat) (r : List UInt8) (y : ND) (t : List UInt8) : Prop := validN d y = true ∧ numsB d y = true ∧ r = writeP d y ++ t
/-- What a head's reader tells. -/
def MHd (r : List UInt8) (ok : Bool) (k z : Int) (r1 : List UInt8) : Prop := ∀ d y t, validN (d + 1) y = true → numsB (d + 1) y = true → r = headP (pHd y) (pVal y) ++ t → ok = true ∧ k = y.kind ∧ z = pPay y ∧ r1 = t
theorem mrhead {d : Nat} {r r1 : List UInt8} {ok : Bool} {k z : Int} (hat : MHd r ok k z r1) {y : ND} {t : List UInt8} (h : MIr (d + 1) r y t) : ok = true ∧ k = y.kind ∧ z = pPay y ∧ r1 = bodyM (writeP d) y ++ t := by
  obtain ⟨h1, h2, h3⟩ := h
  rw [writeP_succ, List.append_assoc] at h3
  exact hat d y _ h1 h2 h3
theorem mname_at {z : ByteArray} (d : Nat) (h : textOk z = true) : validN (d + 1) (.mk 3 false 0 z [] []) = true ∧ numsB (d + 1) (.mk 3 false 0 z [] []) = true ∧ writeP (d + 1) (.mk 3 false 0 z [] []) = pText z := by
  refine ⟨?_, ?_, ?_⟩
  · rw [validN_succ]
    unfold flatOk
    simp [ND.kind, ND.bool, ND.num, ND.text, ND.names, ND.items, h]
  · rw [numsB_succ]; rfl
  · rfl
/-- Names and items so far, before a name. -/
def MLr (d : Nat) (k : Int) (n : Nat) (r : List UInt8) (ns : List ByteArray) (X : List ND) (rr : List UInt8) : Prop := ∀ y t, MIr (d + 1) r y t → y = .mk k false 0 ⟨#[]⟩ y.names y.items ∧ y.items.length = n ∧ ∃ its nms, y.items = X ++ its ∧ y.names = ns ++ nms ∧ (k = 5 → nms.length = its.length) ∧ (k ≠ 5 → nms = []) ∧ (∀ z, z ∈ its → validN d z = true ∧ numsB d z = true) ∧ (∀ z, z ∈ nms → textOk z = true) ∧ rr = restM d k nms its ++ t
/-- Names and items so far, before an item. -/
def MVr (d : Nat) (k : Int) (n : Nat) (r : List UInt8) (ns : List ByteArray) (X : List ND) (rr : List UInt8) : Prop := ∀ y t, MIr (d + 1) r y t → y = .mk k false 0 ⟨#[]⟩ y.names y.items ∧ y.items.length = n ∧ ∃ i its nms, y.items = X ++ i :: its ∧ y.names = ns ++ nms ∧ (k = 5 → nms.length = its.length) ∧ (k ≠ 5 → nms = []) ∧ (∀ z, z ∈ i :: its → validN d z = true ∧ numsB d z = true) ∧ (∀ z, z ∈ nms → textOk z = true) ∧ rr = writeP d i ++ (restM d k nms its ++ t)
theorem MLr.start {d : Nat} {r r1 : List UInt8} {ok : Bool} {k : Int} {n : Nat} (hat : MHd r ok k (n : Int) r1) (hk : k = 4 ∨ k = 5) : MLr d k n r [] [] r1 := by
  intro y t h
  obtain ⟨-, h1, h2, h4⟩ := mrhead hat h
  obtain ⟨hi, -, -, hns⟩ := validN_parts h.1
  obtain ⟨-, hni⟩ := numsB_parts h.2.1
  rw [h1] at hk ⊢
  rcases mcases h.1 h.2.1 with ⟨c1, -⟩ | ⟨c1, -⟩ | ⟨c1, -⟩ | ⟨c1, -⟩ | ⟨c1, c2, c3, c4⟩ | ⟨c1, c2, c3, c4, c5⟩
  · omega
  · omega
  · omega
  · omega
  · have hnn : y.names = [] := by rw [c4]; rfl
    rw [c1]
    refine ⟨by rw [hnn]; exact c4, by omega, y.items, [], rfl, hnn, fun h => by omega, fun _ => rfl, fun z hz => ⟨hi z hz, hni z hz⟩, fun z hz => by simp at hz, ?_⟩
    rw [h4]
    unfold bodyM restM
    rw [c1]; rfl
  · rw [c1]
    refine ⟨c4, by omega, y.items, y.names, rfl, rfl, fun _ => c5, fun h => absurd rfl h, fun z hz => ⟨hi z hz, hni z hz⟩, fun z hz => hns z hz, ?_⟩
    rw [h4]
    unfold bodyM restM
    rw [c1]; rfl
theorem MLr.more {d : Nat} {k : Int} {n : Nat} {r rr : List UInt8} {ns : List ByteArray} {X : List ND} (h : MLr d k n r ns X rr) (hk : k ≠ 5) (hX : X.length < n) : MVr d k n r ns X rr := by
  intro y t hy
  obtain ⟨h1, h2, its, nms, h3, h4, h5, h6, h7, h8, h9⟩ := h y t hy
  cases its with
  | nil => rw [h3, List.append_nil] at h2; omega
  | cons i its =>
    refine ⟨h1, h2, i, its, nms, h3, h4, fun h => absurd h hk, h6, h7, h8, ?_⟩
    rw [h9]
    unfold restM
    rw [if_neg hk, if_neg hk, List.flatMap_cons, List.append_assoc]
theorem MLr.text {d : Nat} {k : Int} {n : Nat} {r rr r' : List UInt8} {ok : Bool} {ns : List ByteArray} {X : List ND} (h : MLr d k n r ns X rr) (hk : k = 5) (hX : X.length < n) {x : ND} (ht : ∀ z t, MIr d rr z t → ok = true ∧ x = z ∧ r' = t) : (ok = false → ∀ y t, ¬ MIr (d + 1) r y t) ∧ MVr d k n r (ns ++ [x.text]) X r' := by
  have main : ∀ y t, MIr (d + 1) r y t → ok = true ∧ (y = .mk k false 0 ⟨#[]⟩ y.names y.items ∧ y.items.length = n ∧ ∃ i its nms, y.items = X ++ i :: its ∧ y.names = ns ++ [x.text] ++ nms ∧ (k = 5 → nms.length = its.length) ∧ (k ≠ 5 → nms = []) ∧ (∀ z, z ∈ i :: its → validN d z = true ∧ numsB d z = true) ∧ (∀ z, z ∈ nms → textOk z = true) ∧ r' = writeP d i ++ (restM d k nms its ++ t)) := by
    intro y t hy
    obtain ⟨h1, h2, its, nms, h3, h4, h5, h6, h7, h8, h9⟩ := h y t hy
    cases its with
    | nil => rw [h3, List.append_nil] at h2; omega
    | cons i its =>
      cases nms with
      | nil => have := h5 hk; simp at this
      | cons m nms =>
        unfold restM at h9
        rw [if_pos hk, List.zipWith_cons_cons, List.flatten_cons, List.append_assoc, List.append_assoc] at h9
        obtain ⟨e, rfl⟩ : ∃ e, d = e + 1 := by
          cases d with
          | zero => have := (h7 i (by simp)).1; cases this
          | succ e => exact ⟨e, rfl⟩
        obtain ⟨o1, o2, o3⟩ := mname_at e (h8 m (by simp))
        obtain ⟨e1, e2, e3⟩ := ht _ _ ⟨o1, o2, by rw [o3]; exact h9⟩
        subst e2
        refine ⟨e1, h1, h2, i, its, nms, h3, by rw [h4]; simp [ND.text], fun h => by have := h5 h; simpa using this, fun h => absurd hk h, h7, fun z hz => h8 z (by simp [hz]), ?_⟩
        rw [e3]
        unfold restM
        rw [if_pos hk]
  exact ⟨(fun hq y t hy => by have := (main y t hy).1; rw [hq] at this; cases this), fun y t hy => (main y t hy).2⟩
theorem MVr.item {d : Nat} {k : Int} {n : Nat} {r rr r' : List UInt8} {ok : Bool} {ns : List ByteArray} {X : List ND} (h : MVr d k n r ns X rr) {x : ND} (ht : ∀ z t, MIr d rr z t → ok = true ∧ x = z ∧ r' = t) : (ok = false → ∀ y t, ¬ MIr (d + 1) r y t) ∧ MLr d k n r ns (X ++ [x]) r' := by
  have main : ∀ y t, MIr (d + 1) r y t → ok = true ∧ (y = .mk k false 0 ⟨#[]⟩ y.names y.items ∧ y.items.length = n ∧ ∃ its nms, y.items = X ++ [x] ++ its ∧ y.names = ns ++ nms ∧ (k = 5 → nms.length = its.length) ∧ (k ≠ 5 → nms = []) ∧ (∀ z, z ∈ its → validN d z = true ∧ numsB d z = true) ∧ (∀ z, z ∈ nms → textOk z = true) ∧ r' = restM d k nms its ++ t) := by
    intro y t hy
    obtain ⟨h1, h2, i, its, nms, h3, h4, h5, h6, h7, h8, h9⟩ := h y t hy
    have hi := h7 i (by simp)
    obtain ⟨e1, e2, e3⟩ := ht i _ ⟨hi.1, hi.2, h9⟩
    subst e2
    exact ⟨e1, h1, h2, its, nms, by rw [h3]; simp, h4, h5, h6, fun z hz => h7 z (by simp [hz]), h8, e3⟩
  exact ⟨(fun hq y t hy => by have := (main y t hy).1; rw [hq] at this; cases this), fun y t hy => (main y t hy).2⟩
theorem MLr.done {d : Nat} {k : Int} {n : Nat} {r rr : List UInt8} {ns : List ByteArray} {X : List ND} (h : MLr d k n r ns X rr) (hX : X.length = n) : ∀ y t, MIr (d + 1) r y t → (.mk k false 0 ⟨#[]⟩ ns X) = y ∧ rr = t := by
  intro y t hy
  obtain ⟨h1, h2, its, nms, h3, h4, h5, h6, h7, h8, h9⟩ := h y t hy
  have hn : its = [] := by
    rw [h3, List.length_append] at h2
    exact List.length_eq_zero_iff.1 (by omega)
  subst hn
  have hm : nms = [] := by
    by_cases hk : k = 5
    · exact List.length_eq_zero_iff.1 (h5 hk)
    · exact h6 hk
  subst hm
  rw [List.append_nil] at h3 h4
  refine ⟨by rw [h1, h3, h4], ?_⟩
  rw [h9]
  unfold restM
  split <;> rfl
end Go.Proofs.YtdppdonaojdceaaDoor
