/- The names that the kit's Node gives out: a word and two digits that tell the place. No program. -/
import Derived.Test.YthcgkkafbobfoaaDoorNst
namespace Go.Proofs.YthcgkkafbobfoaaDoor
set_option linter.unusedVariables false

def nmW : List ByteArray := [⟨#[97]⟩, ⟨#[98]⟩, ⟨#[118]⟩, ⟨#[100]⟩, ⟨#[]⟩]
theorem nmW_ok : ∀ s, s ∈ nmW → s.size ≤ 1 ∧ Lib.validD s.data.toList = true := by decide +kernel
def twoD (i : Nat) : List UInt8 := [UInt8.ofNat (48 + i % 10), UInt8.ofNat (48 + i / 10)]
def NameOf (i : Nat) (s : ByteArray) : Prop := ∃ u ∈ nmW, s = u ++ ⟨(twoD i).toArray⟩
theorem twoD_ok : ∀ i, i < 100 → Lib.validD (twoD i) = true := by
  have : ∀ i : Fin 100, Lib.validD (twoD i.1) = true := by decide +kernel
  exact fun i hi => this ⟨i, hi⟩
theorem twoD_ne {i j : Nat} (hi : i < 100) (hj : j < 100) (h : twoD i = twoD j) : i = j := by
  simp only [twoD, List.cons.injEq, and_true] at h
  obtain ⟨h1, h2⟩ := h
  have e1 := congrArg UInt8.toNat h1
  have e2 := congrArg UInt8.toNat h2
  simp only [UInt8.toNat_ofNat'] at e1 e2
  omega
theorem name_ok {i : Nat} {s : ByteArray} (hi : i < 100) (h : NameOf i s) : textOk s = true ∧ s.size ≤ 3 := by
  obtain ⟨u, hu, rfl⟩ := h
  obtain ⟨h1, h2⟩ := nmW_ok u hu
  have hs : (u ++ (⟨(twoD i).toArray⟩ : ByteArray)).size ≤ 3 := by
    rw [ByteArray.size_append]
    show u.size + 2 ≤ 3
    omega
  refine ⟨?_, hs⟩
  unfold textOk
  rw [valid_app h2 (twoD_ok i hi), decide_eq_true (show (u ++ (⟨(twoD i).toArray⟩ : ByteArray)).size ≤ 65536 by omega)]
  rfl
theorem name_ne {i j : Nat} {s : ByteArray} (hi : i < 100) (hj : j < 100) (h : NameOf i s) (k : NameOf j s) : i = j := by
  obtain ⟨u, hu, rfl⟩ := h
  obtain ⟨v, hv, e⟩ := k
  have e' := congrArg (fun x : ByteArray => x.data.toList) e
  simp only [ByteArray.toList_data_append] at e'
  exact twoD_ne hi hj (List.append_inj_right' e' rfl)
def NamesOf (ns : List ByteArray) : Prop := ∀ i s, ns[i]? = some s → NameOf i s
theorem NamesOf.push {ns : List ByteArray} {s : ByteArray} (h : NamesOf ns) (hs : NameOf ns.length s) : NamesOf (ns ++ [s]) := by
  intro i t ht
  rcases Nat.lt_or_ge i ns.length with hi | hi
  · rw [List.getElem?_append_left hi] at ht; exact h i t ht
  · rw [List.getElem?_append_right hi] at ht
    have : i - ns.length = 0 := by
      rcases Nat.eq_zero_or_pos (i - ns.length) with h0 | h0
      · exact h0
      · rw [List.getElem?_eq_none (by simp; omega)] at ht; cases ht
    rw [this] at ht
    obtain rfl : s = t := by simpa using ht
    obtain rfl : i = ns.length := by omega
    exact hs
theorem NamesOf.nodup {ns : List ByteArray} (h : NamesOf ns) (hl : ns.length ≤ 100) : ns.Nodup := by
  rw [List.nodup_iff_pairwise_ne, List.pairwise_iff_getElem]
  intro i j hi hj hij e
  have := name_ne (by omega) (by omega) (h i _ (List.getElem?_eq_getElem hi)) (h j _ (by rw [List.getElem?_eq_getElem hj, e]))
  omega
theorem NamesOf.texts {ns : List ByteArray} (h : NamesOf ns) (hl : ns.length ≤ 100) : ∀ s, s ∈ ns → textOk s = true := by
  intro s hs
  obtain ⟨i, hi, rfl⟩ := List.getElem_of_mem hs
  exact (name_ok (by omega) (h i _ (List.getElem?_eq_getElem hi))).1
/-- A list or map that has been built so is valid. -/
theorem built_valid {n : Nat} {k : Int} {ns : List ByteArray} {its : List ND} (hn : 1 ≤ n) (hk : k = 4 ∧ ns = [] ∨ k = 5 ∧ ns.length = its.length ∧ NamesOf ns) (hl : its.length ≤ 50) (hv : ∀ y, y ∈ its → validN (n - 1) y = true) : validN n (.mk k false 0 ⟨#[]⟩ ns its) = true := by
  obtain ⟨m, rfl⟩ : ∃ m, n = m + 1 := ⟨n - 1, by omega⟩
  rw [Nat.add_sub_cancel] at hv
  have ht : textOk ⟨#[]⟩ = true := by decide
  rcases hk with ⟨rfl, rfl⟩ | ⟨rfl, h1, h2⟩
  · rw [validN_succ, Bool.and_eq_true, List.all_eq_true]
    refine ⟨?_, hv⟩
    unfold flatOk
    simp [ND.kind, ND.bool, ND.num, ND.text, ND.items, ND.names, ht]
    exact decide_eq_true (by omega)
  · rw [mapOk_iff rfl]
    exact ⟨rfl, rfl, rfl, rfl, h1, by show its.length ≤ 256; omega, h2.texts (by omega), h2.nodup (by omega), hv⟩
/-- A node that has no items and no names. -/
theorem leaf_valid {n : Nat} (hn : 1 ≤ n) (k : Int) (b : Bool) (z : Int) (t : ByteArray) (h : flatOk (.mk k b z t [] []) = true) : validN n (.mk k b z t [] []) = true := by
  obtain ⟨m, rfl⟩ : ∃ m, n = m + 1 := ⟨n - 1, by omega⟩
  rw [validN_succ, h]
  rfl
end Go.Proofs.YthcgkkafbobfoaaDoor
