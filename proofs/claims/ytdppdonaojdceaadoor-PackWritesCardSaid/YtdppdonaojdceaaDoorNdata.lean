/- Which texts may stand in a node; what is valid UTF-8 stays so under more valid text. No program. Then: Valid, Get and Put of nodes as data, and what follows of them: what was put is got, nothing else changes. No program. -/
import Derived.Test.YtdppdonaojdceaaDoorNshape
import Derived.Lib.ValidLaws
namespace Go.Proofs.YtdppdonaojdceaaDoor
open Go.Lib
set_option linter.unusedVariables false

theorem checkN_more {n n' b1 b2 b3 c1 c2 c3 sz lo hi k : Nat} (h : checkN n b1 b2 b3 sz lo hi = some k) (hn : n ≤ n') (h1 : 1 < k → c1 = b1) (h2 : 2 < k → c2 = b2) (h3 : 3 < k → c3 = b3) : checkN n' c1 c2 c3 sz lo hi = some k ∧ k ≤ n ∧ 2 ≤ k := by
  unfold checkN at h ⊢
  split at h
  · split at h
    · cases h
    · cases h
      rename_i e1 e2
      have := h1 (by decide)
      rw [if_pos e1, if_neg (by omega)]
      exact ⟨rfl, by omega, by omega⟩
  · split at h
    · split at h
      · cases h
      · cases h
        rename_i e0 e1 e2
        have := h1 (by decide)
        have := h2 (by decide)
        rw [if_neg e0, if_pos e1, if_neg (by omega)]
        exact ⟨rfl, by omega, by omega⟩
    · split at h
      · split at h
        · cases h
        · cases h
          rename_i e0 e1 e2 e3
          have := h1 (by decide)
          have := h2 (by decide)
          have := h3 (by decide)
          rw [if_neg e0, if_neg e1, if_pos e2, if_neg (by omega)]
          exact ⟨rfl, by omega, by omega⟩
      · cases h
/-- What is valid stays so under whatever stands behind it. -/
theorem validD_app : ∀ (n : Nat) (l m : List UInt8), l.length ≤ n → validD l = true → validD (l ++ m) = validD m
  | n, [], m, _, _ => rfl
  | 0, b :: t, m, hn, _ => by simp at hn
  | n + 1, b :: t, m, hn, h => by
    by_cases hb : b.toNat < 128
    · rw [validD_cons b t hb] at h
      show validD (b :: (t ++ m)) = _
      rw [validD_cons b _ hb]
      exact validD_app n t m (by simpa using hn) h
    · have e := validD_lead (b :: t) (by simp) (by show 128 ≤ b.toNat; omega)
      rw [h] at e
      split at e
      · cases e
      · rename_i k hk
        have hg : ∀ i, i < (b :: t).length → ((b :: t) ++ m).getD i 0 = (b :: t).getD i 0 := fun i hi => by
          simp only [List.getD_eq_getElem?_getD]; rw [List.getElem?_append_left hi]
        have hkn : k ≤ (b :: t).length := (checkN_more hk (Nat.le_refl _) (fun _ => rfl) (fun _ => rfl) (fun _ => rfl)).2.1
        obtain ⟨q1, q2, q3⟩ := checkN_more (n' := ((b :: t) ++ m).length) hk (by simp) (c1 := (((b :: t) ++ m).getD 1 0).toNat) (c2 := (((b :: t) ++ m).getD 2 0).toNat) (c3 := (((b :: t) ++ m).getD 3 0).toNat) (fun hk => by rw [hg 1 (by omega)]) (fun hk => by rw [hg 2 (by omega)]) (fun hk => by rw [hg 3 (by omega)])
        have e2 := validD_lead ((b :: t) ++ m) (by simp) (by show 128 ≤ b.toNat; omega)
        rw [hg 0 (by simp)] at e2
        rw [q1] at e2
        rw [e2]
        show validD (((b :: t) ++ m).drop k) = _
        rw [List.drop_append_of_le_length q2]
        exact validD_app n _ m (by rw [List.length_drop]; omega) e.symm
theorem valid_app {s t : ByteArray} (hs : validD s.data.toList = true) (ht : validD t.data.toList = true) : validD (s ++ t).data.toList = true := by
  have e : (s ++ t).data.toList = s.data.toList ++ t.data.toList := by simp
  rw [e, validD_app _ _ _ (Nat.le_refl _) hs]; exact ht
/-- A text that may stand in a node. -/
def textOk (s : ByteArray) : Bool := decide (s.size ≤ 65536) && validD s.data.toList

end Go.Proofs.YtdppdonaojdceaaDoor

namespace Go.Proofs.YtdppdonaojdceaaDoor
set_option linter.unusedVariables false
/-- The document's definition: nodes that are valid and at most d deep. -/
def flatOk (x : ND) : Bool :=
  decide (0 ≤ x.kind) && decide (x.kind ≤ 5) && (!x.bool || decide (x.kind = 1)) && (decide (x.num = 0) || decide (x.kind = 2)) && (decide (x.text = ⟨#[]⟩) || decide (x.kind = 3)) &&
  (decide (x.items.length = 0) || decide (4 ≤ x.kind)) && (decide (x.names.length = 0) || decide (x.kind = 5)) && textOk x.text && decide (x.items.length ≤ 256) && (decide (x.kind ≠ 5) || decide (x.names.length = x.items.length)) &&
  x.names.all textOk && decide x.names.Nodup
def validN : Nat → ND → Bool
  | 0, _ => false
  | d + 1, x => flatOk x && x.items.all (validN d)
theorem validN_succ (d : Nat) (x : ND) : validN (d + 1) x = (flatOk x && x.items.all (validN d)) := rfl
theorem validN_mono : ∀ {d d' : Nat} {x : ND}, d ≤ d' → validN d x = true → validN d' x = true
  | 0, _, _, _, h => by cases h
  | d + 1, 0, _, hd, _ => by omega
  | d + 1, d' + 1, x, hd, h => by
    rw [validN_succ, Bool.and_eq_true, List.all_eq_true] at h ⊢
    exact ⟨h.1, fun y hy => validN_mono (by omega) (h.2 y hy)⟩
/-- Get. -/
def getN (x : ND) (s : ByteArray) : Option ND :=
  if x.kind = 5 then (x.names.findIdx? (fun t => decide (t = s))).bind fun i => x.items[i]? else none
/-- Put on a map. -/
def putN (x : ND) (s : ByteArray) (v : ND) : ND :=
  match x.names.findIdx? (fun t => decide (t = s)) with
  | some i => .mk x.kind x.bool x.num x.text x.names (x.items.set i v)
  | none => .mk x.kind x.bool x.num x.text (x.names ++ [s]) (x.items ++ [v])
theorem findIdx_some {l : List ByteArray} {s : ByteArray} {i : Nat} (h : l.findIdx? (fun t => decide (t = s)) = some i) : l[i]? = some s ∧ ∀ j, j < i → l[j]? ≠ some s := by
  rw [List.findIdx?_eq_some_iff_getElem] at h
  obtain ⟨hi, h1, h2⟩ := h
  refine ⟨by rw [List.getElem?_eq_getElem hi]; exact congrArg some (of_decide_eq_true h1), fun j hj e => ?_⟩
  rw [List.getElem?_eq_getElem (by omega)] at e
  exact h2 j hj (decide_eq_true (Option.some.inj e))
theorem findIdx_none {l : List ByteArray} {s : ByteArray} (h : l.findIdx? (fun t => decide (t = s)) = none) : s ∉ l := by
  rw [List.findIdx?_eq_none_iff] at h
  intro hs
  have := h s hs
  simp at this
theorem findIdx_of {l : List ByteArray} {s : ByteArray} {i : Nat} (hn : l.Nodup) (h : l[i]? = some s) : l.findIdx? (fun t => decide (t = s)) = some i := by
  rw [List.findIdx?_eq_some_iff_getElem]
  have hi : i < l.length := by
    rcases Nat.lt_or_ge i l.length with h' | h'
    · exact h'
    · rw [List.getElem?_eq_none h'] at h; cases h
  rw [List.getElem?_eq_getElem hi] at h
  have h := Option.some.inj h
  refine ⟨hi, decide_eq_true h, fun j hj e => ?_⟩
  have e : l[j] = s := of_decide_eq_true e
  have := (List.nodup_iff_pairwise_ne.1 hn)
  rw [List.pairwise_iff_getElem] at this
  exact this j i (by omega) hi hj (e.trans h.symm)
theorem getN_of {x : ND} {s : ByteArray} {i : Nat} {y : ND} (hk : x.kind = 5) (hn : x.names.Nodup) (h1 : x.names[i]? = some s) (h2 : x.items[i]? = some y) : getN x s = some y := by
  unfold getN
  rw [if_pos hk, findIdx_of hn h1]
  exact h2
/-- What a map that is valid holds. -/
structure MapOk (d : Nat) (x : ND) : Prop where
  kind : x.kind = 5
  bool : x.bool = false
  num : x.num = 0
  text : x.text = ⟨#[]⟩
  len : x.names.length = x.items.length
  most : x.items.length ≤ 256
  texts : ∀ s, s ∈ x.names → textOk s = true
  nodup : x.names.Nodup
  items : ∀ y, y ∈ x.items → validN d y = true
theorem mapOk_iff {d : Nat} {x : ND} (hk : x.kind = 5) : validN (d + 1) x = true ↔ MapOk d x := by
  have ht : textOk ⟨#[]⟩ = true := by decide
  rw [validN_succ]
  unfold flatOk
  simp only [Bool.and_eq_true, List.all_eq_true, hk]
  constructor
  · rintro ⟨⟨⟨⟨⟨⟨⟨⟨⟨⟨⟨⟨-, -⟩, h1⟩, h2⟩, h3⟩, -⟩, -⟩, -⟩, h4⟩, h5⟩, h6⟩, h7⟩, h8⟩
    refine ⟨hk, ?_, ?_, ?_, ?_, ?_, h6, by simpa using h7, h8⟩
    · simpa using h1
    · simpa using h2
    · simpa using h3
    · simpa using h5
    · simpa using h4
  · intro h
    refine ⟨⟨⟨⟨⟨⟨⟨⟨⟨⟨⟨⟨by decide, by decide⟩, ?_⟩, ?_⟩, ?_⟩, ?_⟩, ?_⟩, ?_⟩, ?_⟩, ?_⟩, h.texts⟩, by simpa using h.nodup⟩, h.items⟩
    · simp [h.bool]
    · simp [h.num]
    · simp [h.text]
    · simp
    · simp
    · rw [h.text]; exact ht
    · simpa using h.most
    · simp [h.len]
theorem putN_kind (x : ND) (s : ByteArray) (v : ND) : (putN x s v).kind = x.kind := by unfold putN; split <;> rfl
theorem put_ok {d : Nat} {x v : ND} {s : ByteArray} (h : MapOk d x) (hs : textOk s = true) (hv : validN d v = true) (hl : x.items.length < 256 ∨ s ∈ x.names) : MapOk d (putN x s v) := by
  unfold putN
  split
  · rename_i i hi
    refine ⟨h.kind, h.bool, h.num, h.text, ?_, ?_, h.texts, h.nodup, ?_⟩
    · show x.names.length = (x.items.set i v).length
      rw [List.length_set]; exact h.len
    · show (x.items.set i v).length ≤ _
      rw [List.length_set]; exact h.most
    · intro y hy
      rcases List.mem_or_eq_of_mem_set hy with hy | rfl
      · exact h.items y hy
      · exact hv
  · rename_i hi
    have hm := findIdx_none hi
    refine ⟨h.kind, h.bool, h.num, h.text, ?_, ?_, ?_, ?_, ?_⟩
    · show (x.names ++ [s]).length = (x.items ++ [v]).length
      simp [h.len]
    · show (x.items ++ [v]).length ≤ _
      rcases hl with hl | hl
      · simp; omega
      · exact (hm hl).elim
    · intro y hy
      rcases List.mem_append.1 hy with hy | hy
      · exact h.texts y hy
      · cases List.mem_singleton.1 hy; exact hs
    · show (x.names ++ [s]).Nodup
      rw [List.nodup_append]
      refine ⟨h.nodup, by simp, fun a ha b hb => ?_⟩
      cases List.mem_singleton.1 hb
      intro e
      subst e
      exact hm ha
    · intro y hy
      rcases List.mem_append.1 hy with hy | hy
      · exact h.items y hy
      · cases List.mem_singleton.1 hy; exact hv
/-- What was put is got. -/
theorem get_put {d : Nat} {x v : ND} {s : ByteArray} (h : MapOk d x) : getN (putN x s v) s = some v := by
  unfold putN
  split
  · rename_i i hi
    have hf := (findIdx_some hi).1
    have hlt : i < x.names.length := by
      rcases Nat.lt_or_ge i x.names.length with h' | h'
      · exact h'
      · rw [List.getElem?_eq_none h'] at hf; cases hf
    have hl := h.len
    exact getN_of (i := i) h.kind h.nodup hf (by show (x.items.set i v)[i]? = _; rw [List.getElem?_set_self (by omega)])
  · rename_i hi
    have hm := findIdx_none hi
    have hnd : (x.names ++ [s]).Nodup := by
      rw [List.nodup_append]
      refine ⟨h.nodup, by simp, fun a ha b hb => ?_⟩
      cases List.mem_singleton.1 hb
      intro e
      subst e
      exact hm ha
    have hl := h.len
    exact getN_of (i := x.names.length) h.kind hnd (by show (x.names ++ [s])[x.names.length]? = _; simp) (by show (x.items ++ [v])[x.names.length]? = _; rw [hl]; simp)
/-- The names keep their places. -/
theorem put_names {x v : ND} {s : ByteArray} {i : Nat} {t : ByteArray} (h : x.names[i]? = some t) : (putN x s v).names[i]? = some t := by
  have hlt : i < x.names.length := by
    rcases Nat.lt_or_ge i x.names.length with h' | h'
    · exact h'
    · rw [List.getElem?_eq_none h'] at h; cases h
  unfold putN
  split
  · exact h
  · show (x.names ++ [s])[i]? = _
    rw [List.getElem?_append_left hlt]; exact h
/-- Nothing else changes. -/
theorem get_other {d : Nat} {x v : ND} {s t : ByteArray} {i : Nat} {y : ND} (h : MapOk d x) (ht : x.names[i]? = some t) (hy : x.items[i]? = some y) (hne : t ≠ s) : getN (putN x s v) t = some y := by
  have hlt : i < x.names.length := by
    rcases Nat.lt_or_ge i x.names.length with h' | h'
    · exact h'
    · rw [List.getElem?_eq_none h'] at ht; cases ht
  have hl := h.len
  have hn := put_names (x := x) (v := v) (s := s) ht
  have key : (putN x s v).names.Nodup ∧ (putN x s v).items[i]? = some y := by
    unfold putN
    split
    · rename_i q hq
      refine ⟨h.nodup, ?_⟩
      show (x.items.set q v)[i]? = _
      rw [List.getElem?_set_ne]
      · exact hy
      · intro e
        subst e
        have := (findIdx_some hq).1
        rw [ht] at this
        exact hne (Option.some.inj this)
    · rename_i hi
      have hm := findIdx_none hi
      refine ⟨?_, ?_⟩
      · show (x.names ++ [s]).Nodup
        rw [List.nodup_append]
        refine ⟨h.nodup, by simp, fun a ha b hb => ?_⟩
        cases List.mem_singleton.1 hb
        intro e
        subst e
        exact hm ha
      · show (x.items ++ [v])[i]? = _
        rw [List.getElem?_append_left (by omega)]; exact hy
  exact getN_of ((putN_kind x s v).trans h.kind) key.1 hn key.2
theorem get_some_iff {d : Nat} {x : ND} {s : ByteArray} (h : MapOk d x) : (getN x s).isSome = true ↔ s ∈ x.names := by
  have hl := h.len
  unfold getN
  rw [if_pos h.kind]
  constructor
  · intro e
    cases hf : x.names.findIdx? (fun t => decide (t = s)) with
    | none => rw [hf] at e; simp at e
    | some i => exact List.mem_of_getElem? (findIdx_some hf).1
  · intro hs
    cases hf : x.names.findIdx? (fun t => decide (t = s)) with
    | none => exact (findIdx_none hf hs).elim
    | some i =>
      have hq := (findIdx_some hf).1
      have hlt : i < x.names.length := by
        rcases Nat.lt_or_ge i x.names.length with h' | h'
        · exact h'
        · rw [List.getElem?_eq_none h'] at hq; cases hq
      show (x.items[i]?).isSome = true
      rw [List.getElem?_eq_getElem (by omega)]; rfl
theorem put_len_old {x v : ND} {s : ByteArray} (h : s ∈ x.names) : (putN x s v).names.length = x.names.length := by
  unfold putN
  split
  · rfl
  · rename_i hi
    exact (findIdx_none hi h).elim
theorem put_len_new {x v : ND} {s : ByteArray} (h : s ∉ x.names) : (putN x s v).names.length = x.names.length + 1 := by
  unfold putN
  split
  · rename_i i hi
    exact (h (List.mem_of_getElem? (findIdx_some hi).1)).elim
  · show (x.names ++ [s]).length = _
    simp
/-- The same put again changes nothing. -/
theorem put_again {d : Nat} {x v : ND} {s : ByteArray} (h : MapOk d x) : putN (putN x s v) s v = putN x s v := by
  cases hf : x.names.findIdx? (fun t => decide (t = s)) with
  | some i =>
    have e : putN x s v = .mk x.kind x.bool x.num x.text x.names (x.items.set i v) := by unfold putN; rw [hf]
    rw [e]
    unfold putN
    rw [show (ND.mk x.kind x.bool x.num x.text x.names (x.items.set i v)).names = x.names from rfl, hf]
    show ND.mk _ _ _ _ _ ((x.items.set i v).set i v) = _
    rw [List.set_set]
    rfl
  | none =>
    have hm := findIdx_none hf
    have e : putN x s v = .mk x.kind x.bool x.num x.text (x.names ++ [s]) (x.items ++ [v]) := by unfold putN; rw [hf]
    have hnd : (x.names ++ [s]).Nodup := by
      rw [List.nodup_append]
      refine ⟨h.nodup, by simp, fun a ha b hb => ?_⟩
      cases List.mem_singleton.1 hb
      intro e
      subst e
      exact hm ha
    have hl := h.len
    rw [e]
    unfold putN
    rw [show (ND.mk x.kind x.bool x.num x.text (x.names ++ [s]) (x.items ++ [v])).names = x.names ++ [s] from rfl, findIdx_of (i := x.names.length) hnd (by simp)]
    show ND.mk _ _ _ _ _ ((x.items ++ [v]).set x.names.length v) = _
    rw [hl, List.set_append_right _ _ (Nat.le_refl _), Nat.sub_self]
    rfl
/-- A number that an int holds. -/
def wideI (z : Int) : Bool := decide (-9223372036854775808 ≤ z) && decide (z ≤ 9223372036854775807)
/-- All numbers are what an int holds. -/
def numsB : Nat → ND → Bool
  | 0, _ => true
  | d + 1, x => wideI x.num && x.items.all (numsB d)
/-- Valid, and all numbers are what an int holds. -/
def validW (d : Nat) (x : ND) : Bool := validN d x && numsB d x
theorem validW_valid {d : Nat} {x : ND} (h : validW d x = true) : validN d x = true := by unfold validW at h; rw [Bool.and_eq_true] at h; exact h.1
theorem validW_nums {d : Nat} {x : ND} (h : validW d x = true) : numsB d x = true := by unfold validW at h; rw [Bool.and_eq_true] at h; exact h.2
theorem validW_mk {d : Nat} {x : ND} (h : validN (d + 1) x = true) (hw : wideI x.num = true) (hi : ∀ y, y ∈ x.items → validW d y = true) : validW (d + 1) x = true := by
  unfold validW numsB
  rw [h, hw, Bool.true_and, Bool.true_and, List.all_eq_true]
  exact fun y hy => validW_nums (hi y hy)
theorem numsB_succ (d : Nat) (x : ND) : numsB (d + 1) x = (wideI x.num && x.items.all (numsB d)) := rfl
/-- A bound on a node's text in any serialisation. -/
def costN : Nat → ND → Nat
  | 0, _ => 0
  | d + 1, x => 24 + 6 * x.text.size + (x.names.map fun s => 6 * s.size + 8).sum + (x.items.map fun y => costN d y + 1).sum
theorem costN_succ (d : Nat) (x : ND) : costN (d + 1) x = 24 + 6 * x.text.size + (x.names.map fun s => 6 * s.size + 8).sum + (x.items.map fun y => costN d y + 1).sum := rfl
/-- How much the kit's nodes of a depth cost at most. -/
def bndN : Nat → Nat
  | 0 => 259
  | d + 1 => 1047 + 3 * bndN d
theorem bndN_succ (d : Nat) : bndN (d + 1) = 1047 + 3 * bndN d := rfl
theorem bndN_1 : ∀ {d : Nat}, 1 ≤ d → 1824 ≤ bndN d
  | 1, _ => by decide
  | d + 2, _ => by have := bndN_1 (d := d + 1) (by omega); rw [bndN_succ]; omega
theorem sum_le {α : Type} {f : α → Nat} {c : Nat} : ∀ {l : List α}, (∀ y, y ∈ l → f y ≤ c) → (l.map f).sum ≤ c * l.length
  | [], _ => Nat.le_refl _
  | a :: t, h => by
    have h1 := sum_le (f := f) (c := c) (l := t) fun y hy => h y (by simp [hy])
    have h2 := h a (by simp)
    rw [List.map_cons, List.sum_cons, List.length_cons, Nat.mul_add]
    omega
theorem costN_same : ∀ {e d : Nat} {x : ND}, e ≤ d → validN e x = true → costN d x = costN e x
  | 0, _, _, _, h => by cases h
  | e + 1, 0, _, h, _ => by omega
  | e + 1, d + 1, x, hd, h => by
    rw [validN_succ, Bool.and_eq_true, List.all_eq_true] at h
    rw [costN_succ, costN_succ, List.map_congr_left (g := fun y => costN e y + 1) fun y hy => by rw [costN_same (by omega) (h.2 y hy)]]
/-- What the kit's nodes are: valid, all numbers are what an int holds, and not too costly. -/
def validK (d : Nat) (x : ND) : Bool := validW d x && decide (costN d x ≤ bndN d)
theorem validK_w {d : Nat} {x : ND} (h : validK d x = true) : validW d x = true := by unfold validK at h; rw [Bool.and_eq_true] at h; exact h.1
theorem validK_valid {d : Nat} {x : ND} (h : validK d x = true) : validN d x = true := validW_valid (validK_w h)
theorem validK_cost {d : Nat} {x : ND} (h : validK d x = true) : costN d x ≤ bndN d := by unfold validK at h; rw [Bool.and_eq_true] at h; exact of_decide_eq_true h.2
theorem validK_mk {d : Nat} {x : ND} (h : validW d x = true) (hc : costN d x ≤ bndN d) : validK d x = true := by unfold validK; rw [h, decide_eq_true hc]; rfl
/-- What the items of a row cost. -/
def costs (d : Nat) (its : List ND) : Nat := (its.map fun y => costN d y + 1).sum
theorem costs_few {d : Nat} {its : List ND} (h : ∀ y, y ∈ its → validK d y = true) (hl : its.length ≤ 3) : costs d its ≤ 3 * (bndN d + 1) := by
  have := sum_le (f := fun y => costN d y + 1) (c := bndN d + 1) (l := its) fun y hy => Nat.succ_le_succ (validK_cost (h y hy))
  exact Nat.le_trans this (by rw [Nat.mul_comm]; exact Nat.mul_le_mul_right _ hl)
theorem costs_push (d : Nat) (its : List ND) (y : ND) : costs d (its ++ [y]) = costs d its + (costN d y + 1) := by unfold costs; rw [List.map_append, List.sum_append]; rfl
end Go.Proofs.YtdppdonaojdceaaDoor
