/- Which texts may stand in a node; what is valid UTF-8 stays so under more valid text. No program. Then: Valid, Get and Put of nodes as data, and what follows of them: what was put is got, nothing else changes. No program. -/
import Derived.Test.YtdppdonaojdceaaGreatDoorNshape
import Derived.Lib.ValidLaws
import Derived.Maps.OwnSet
import Derived.Maps.Own
import Derived.Maps.OwnOps
namespace Go.Proofs.YtdppdonaojdceaaGreatDoor
open Go.Lib
set_option linter.unusedVariables false

theorem checkN_more {n n' b1 b2 b3 c1 c2 c3 sz lo hi k : Nat} (h : checkN n b1 b2 b3 sz lo hi = some k) (hn : n ≤ n') (h1 : 1 < k → c1 = b1) (h2 : 2 < k → c2 = b2) (h3 : 3 < k → c3 = b3) : checkN n' c1 c2 c3 sz lo hi = some k ∧ k ≤ n ∧ 2 ≤ k := by
 unfold checkN at h ⊢
 split at h
 ·split at h
  ·cases h
  ·cases h
   rename_i e1 e2
   have := h1 (by decide)
   rw [if_pos e1, if_neg (by omega)]
   exact ⟨rfl, by omega, by omega⟩
 ·split at h
  ·split at h
   ·cases h
   ·cases h
    rename_i e0 e1 e2
    have := h1 (by decide)
    have := h2 (by decide)
    rw [if_neg e0, if_pos e1, if_neg (by omega)]
    exact ⟨rfl, by omega, by omega⟩
  ·split at h
   ·split at h
    ·cases h
    ·cases h
     rename_i e0 e1 e2 e3
     have := h1 (by decide)
     have := h2 (by decide)
     have := h3 (by decide)
     rw [if_neg e0, if_neg e1, if_pos e2, if_neg (by omega)]
     exact ⟨rfl, by omega, by omega⟩
   ·cases h
/-- What is valid stays so under whatever stands behind it. -/
theorem validD_app : ∀ (n : Nat) (l m : List UInt8), l.length ≤ n → validD l = true → validD (l ++ m) = validD m
 | n, [], m, _, _ => rfl
 | 0, b :: t, m, hn, _ => by simp at hn
 | n + 1, b :: t, m, hn, h => by
  by_cases hb : b.toNat < 128
  ·rw [validD_cons b t hb] at h
   show validD (b :: (t ++ m)) = _
   rw [validD_cons b _ hb]
   exact validD_app n t m (by simpa using hn) h
  ·have e := validD_lead (b :: t) (by simp) (by show 128 ≤ b.toNat; omega)
   rw [h] at e
   split at e
   ·cases e
   ·rename_i k hk
    have hg : ∀ i, i < (b :: t).length → ((b :: t) ++ m).getD i 0 = (b :: t).getD i 0 := fun i hi => by
     simp only [List.getD_eq_getElem?_getD]; rw [List.getElem?_append_left hi]
    have hkn : k ≤ (b :: t).length := (checkN_more hk (Nat.le_refl _) (fun _ => rfl) (fun _ => rfl) (fun _ => rfl)).2.1
    obtain ⟨q1, q2, q3⟩ := checkN_more (n' := ((b :: t) ++ m).length) hk (by simp) (c1 := (((b :: t) ++ m).getD 1 0).toNat) (c2 := (((b :: t) ++ m).getD 2 0).toNat) (c3 := (((b :: t) ++ m).getD 3 0).toNat) (fun hk => by rw [hg 1 (by omega)]) (fun hk => by rw [hg 2 (by omega)]) (fun hk => by rw [hg 3 (by omega)])
    have e2 := validD_lead ((b :: t) ++ m) (by simp) (by show 128 ≤ b.toNat; omega)
    rw [hg 0 (by simp)] at e2
    rw [q1] at e2
    rw [e2]
    show validD (((b :: t) ++ m).drop k) = _
    rw [List.drop_append_of_le_length q2]
    exact validD_app n _ m (by rw [List.length_drop]; omega) e.symm
theorem valid_app {s t : ByteArray} (hs : validD s.data.toList = true) (ht : validD t.data.toList = true) : validD (s ++ t).data.toList = true := by
 have e : (s ++ t).data.toList = s.data.toList ++ t.data.toList := by simp
 rw [e, validD_app _ _ _ (Nat.le_refl _) hs]; exact ht
/-- A text that may stand in a node. -/
def textOk (s : ByteArray) : Bool := decide (s.size ≤ 65536) && validD s.data.toList

end Go.Proofs.YtdppdonaojdceaaGreatDoor

namespace Go.Proofs.YtdppdonaojdceaaGreatDoor
set_option linter.unusedVariables false
/-- The document's definition: nodes that are valid and at most d deep. -/
def flatOk (x : ND) : Bool :=
 decide (0 ≤ x.kind) && decide (x.kind ≤ 5) && (!x.bool || decide (x.kind = 1)) && (decide (x.num = 0) || decide (x.kind = 2)) && (decide (x.text = ⟨#[]⟩) || decide (x.kind = 3)) &&
 (decide (x.items.length = 0) || decide (4 ≤ x.kind)) && (decide (x.names.length = 0) || decide (x.kind = 5)) && textOk x.text && decide (x.items.length ≤ 256) && (decide (x.kind ≠ 5) || decide (x.names.length = x.items.length)) &&
 x.names.all textOk && decide x.names.Nodup
def validN : Nat → ND → Bool
 | 0, _ => false
 | d + 1, x => flatOk x && x.items.all (validN d)
theorem validN_succ (d : Nat) (x : ND) : validN (d + 1) x = (flatOk x && x.items.all (validN d)) := rfl
theorem validN_mono : ∀ {d d' : Nat} {x : ND}, d ≤ d' → validN d x = true → validN d' x = true
 | 0, _, _, _, h => by cases h
 | d + 1, 0, _, hd, _ => by omega
 | d + 1, d' + 1, x, hd, h => by
  rw [validN_succ, Bool.and_eq_true, List.all_eq_true] at h ⊢
  exact ⟨h.1, fun y hy => validN_mono (by omega) (h.2 y hy)⟩
/-- What a map that is valid holds. -/
structure MapOk (d : Nat) (x : ND) : Prop where
 kind : x.kind = 5
 bool : x.bool = false
 num : x.num = 0
 text : x.text = ⟨#[]⟩
 len : x.names.length = x.items.length
 most : x.items.length ≤ 256
 texts : ∀ s, s ∈ x.names → textOk s = true
 nodup : x.names.Nodup
 items : ∀ y, y ∈ x.items → validN d y = true
theorem mapOk_iff {d : Nat} {x : ND} (hk : x.kind = 5) : validN (d + 1) x = true ↔ MapOk d x := by
 have ht : textOk ⟨#[]⟩ = true := by decide
 rw [validN_succ]
 unfold flatOk
 simp only [Bool.and_eq_true, List.all_eq_true, hk]
 constructor
 ·rintro ⟨⟨⟨⟨⟨⟨⟨⟨⟨⟨⟨⟨-, -⟩, h1⟩, h2⟩, h3⟩, -⟩, -⟩, -⟩, h4⟩, h5⟩, h6⟩, h7⟩, h8⟩
  refine ⟨hk, ?_, ?_, ?_, ?_, ?_, h6, by simpa using h7, h8⟩
  ·simpa using h1
  ·simpa using h2
  ·simpa using h3
  ·simpa using h5
  ·simpa using h4
 ·intro h
  refine ⟨⟨⟨⟨⟨⟨⟨⟨⟨⟨⟨⟨by decide, by decide⟩, ?_⟩, ?_⟩, ?_⟩, ?_⟩, ?_⟩, ?_⟩, ?_⟩, ?_⟩, h.texts⟩, by simpa using h.nodup⟩, h.items⟩
  ·simp [h.bool]
  ·simp [h.num]
  ·simp [h.text]
  ·simp
  ·simp
  ·rw [h.text]; exact ht
  ·simpa using h.most
  ·simp [h.len]
/-- A number that an int holds. -/
def wideI (z : Int) : Bool := decide (-9223372036854775808 ≤ z) && decide (z ≤ 9223372036854775807)
/-- All numbers are what an int holds. -/
def numsB : Nat → ND → Bool
 | 0, _ => true
 | d + 1, x => wideI x.num && x.items.all (numsB d)
/-- Valid, and all numbers are what an int holds. -/
def validW (d : Nat) (x : ND) : Bool := validN d x && numsB d x
theorem validW_valid {d : Nat} {x : ND} (h : validW d x = true) : validN d x = true := by unfold validW at h; rw [Bool.and_eq_true] at h; exact h.1
theorem validW_nums {d : Nat} {x : ND} (h : validW d x = true) : numsB d x = true := by unfold validW at h; rw [Bool.and_eq_true] at h; exact h.2
theorem validW_mk {d : Nat} {x : ND} (h : validN (d + 1) x = true) (hw : wideI x.num = true) (hi : ∀ y, y ∈ x.items → validW d y = true) : validW (d + 1) x = true := by
 unfold validW numsB
 rw [h, hw, Bool.true_and, Bool.true_and, List.all_eq_true]
 exact fun y hy => validW_nums (hi y hy)
theorem numsB_succ (d : Nat) (x : ND) : numsB (d + 1) x = (wideI x.num && x.items.all (numsB d)) := rfl
/-- A bound on a node's text in any serialisation. -/
def costN : Nat → ND → Nat
 | 0, _ => 0
 | d + 1, x => 24 + 6 * x.text.size + (x.names.map fun s => 6 * s.size + 8).sum + (x.items.map fun y => costN d y + 1).sum
theorem costN_succ (d : Nat) (x : ND) : costN (d + 1) x = 24 + 6 * x.text.size + (x.names.map fun s => 6 * s.size + 8).sum + (x.items.map fun y => costN d y + 1).sum := rfl
/-- How much the kit's nodes of a depth cost at most. -/
def bndN : Nat → Nat
 | 0 => 259
 | d + 1 => 1047 + 3 * bndN d
theorem bndN_succ (d : Nat) : bndN (d + 1) = 1047 + 3 * bndN d := rfl
theorem bndN_1 : ∀ {d : Nat}, 1 ≤ d → 1824 ≤ bndN d
 | 1, _ => by decide
 | d + 2, _ => by have := bndN_1 (d := d + 1) (by omega); rw [bndN_succ]; omega
theorem sum_le {α : Type} {f : α → Nat} {c : Nat} : ∀ {l : List α}, (∀ y, y ∈ l → f y ≤ c) → (l.map f).sum ≤ c * l.length
 | [], _ => Nat.le_refl _
 | a :: t, h => by
  have h1 := sum_le (f := f) (c := c) (l := t) fun y hy => h y (by simp [hy])
  have h2 := h a (by simp)
  rw [List.map_cons, List.sum_cons, List.length_cons, Nat.mul_add]
  omega
/-- What the kit's nodes are: valid, all numbers are what an int holds, and not too costly. -/
def validK (d : Nat) (x : ND) : Bool := validW d x && decide (costN d x ≤ bndN d)
theorem validK_w {d : Nat} {x : ND} (h : validK d x = true) : validW d x = true := by unfold validK at h; rw [Bool.and_eq_true] at h; exact h.1
theorem validK_valid {d : Nat} {x : ND} (h : validK d x = true) : validN d x = true := validW_valid (validK_w h)
theorem validK_cost {d : Nat} {x : ND} (h : validK d x = true) : costN d x ≤ bndN d := by unfold validK at h; rw [Bool.and_eq_true] at h; exact of_decide_eq_true h.2
theorem validK_mk {d : Nat} {x : ND} (h : validW d x = true) (hc : costN d x ≤ bndN d) : validK d x = true := by unfold validK; rw [h, decide_eq_true hc]; rfl
/-- What the items of a row cost. -/
def costs (d : Nat) (its : List ND) : Nat := (its.map fun y => costN d y + 1).sum
theorem costs_few {d : Nat} {its : List ND} (h : ∀ y, y ∈ its → validK d y = true) (hl : its.length ≤ 3) : costs d its ≤ 3 * (bndN d + 1) := by
 have := sum_le (f := fun y => costN d y + 1) (c := bndN d + 1) (l := its) fun y hy => Nat.succ_le_succ (validK_cost (h y hy))
 exact Nat.le_trans this (by rw [Nat.mul_comm]; exact Nat.mul_le_mul_right _ hl)
theorem costs_push (d : Nat) (its : List ND) (y : ND) : costs d (its ++ [y]) = costs d its + (costN d y + 1) := by unfold costs; rw [List.map_append, List.sum_append]; rfl
end Go.Proofs.YtdppdonaojdceaaGreatDoor
/- A set of strings that the call makes: a map of bools, filled with true, asked by m[s]. For every program. -/
namespace Go.Proofs.YtdppdonaojdceaaGreatDoor
open Go Go.Maps Go.RowKit
set_option linter.unusedVariables false
set_option linter.unusedSimpArgs false

def inB (s : ByteArray) (ns : List ByteArray) : Bool := ns.any fun t => decide (s = t)
theorem inB_iff (s : ByteArray) (ns : List ByteArray) : inB s ns = true ↔ s ∈ ns := by
 unfold inB
 rw [List.any_eq_true]
 constructor
 ·rintro ⟨t, ht, e⟩
  rw [of_decide_eq_true e]; exact ht
 ·exact fun h => ⟨s, h, decide_eq_true rfl⟩
def setD : List ByteArray → DataW Unit
 | [] => .map []
 | s :: ns => (setD ns).put (.string s.data.toList) (.lit (.bool true))
theorem setD_isMap : ∀ ns, IsMap (setD ns)
 | [] => isMap_empty
 | _ :: ns => (setD_isMap ns).put _ _
theorem setD_at (s : ByteArray) : ∀ ns, (setD ns).atKey (.string s.data.toList) (.lit (.bool false)) = .lit (.bool (inB s ns))
 | [] => by
  rfl
 | t :: ns => by
  unfold setD
  by_cases h : s = t
  ·subst h
   rw [atKey_put_same (setD_isMap ns) (show WideAt.IsKeyLit (.string s.data.toList) from trivial)]
   rw [(inB_iff s (s :: ns)).2 (by simp)]
  ·have hne : s.data.toList ≠ t.data.toList := fun e => h (ByteArray.ext (Array.toList_inj.1 e))
   rw [atKey_put_other (by intro e; simp only [Lit.string.injEq] at e; first | exact hne e | exact hne e.symm), setD_at s ns]
   simp [inB, h]
section
variable {P : Program} {t k e : TypeId} {w : World} {b : Nat} {ns : List ByteArray}
/-- Block b is the set of ns. -/
def OwnsSet (P : Program) (k e : TypeId) (w : World) (b : Nat) (ns : List ByteArray) : Prop := w.ownsMap P k (plainElem (H := Unit) P e) b ns.length (setD ns)
theorem plainElem_bool_inv {H : Type} (he : P.underlying e = some .bool) {v : Value} {z : DataW H × List MemPlace} (h : plainElem P e v = some z) : ∃ x, v = .bool x ∧ z = (.lit (.bool x), []) := by
 unfold plainElem at h
 rw [he] at h
 cases v <;> simp at h
 exact ⟨_, rfl, h.symm⟩
theorem OwnsSet.look (h : OwnsSet P k e w b ns) (K : Keyed P k) (ht : P.underlying t = some (.map k e)) (he : P.underlying e = some .bool) (hz : (zeroValue e).run P w = .ok (.bool false) w) (s : ByteArray) (hkey : keyOf P k (.string s) = some (.string s.data.toList)) :
  (Instr.lookup t (.map (some b)) (.string s) false).run P w = .ok (.bool (inB s ns)) w := by
 obtain ⟨v, ps, hrun, hv⟩ := World.ownsMap.lookup h K ht hz (plainElem_bool he false) hkey
 obtain ⟨x, rfl, e'⟩ := plainElem_bool_inv he hv
 rw [setD_at] at e'
 simp only [Prod.mk.injEq, DataW.lit.injEq, Lit.bool.injEq] at e'
 rw [hrun, e'.1]
theorem OwnsSet.kept {w' : World} {row : Option Nat} (h : OwnsSet P k e w b ns) (hg : w.grownBy w' row) (hne : some b ≠ row) : OwnsSet P k e w' b ns := World.ownsMap.kept h hg hne
theorem OwnsSet.below {w' : World} (h : OwnsSet P k e w b ns) (hb : Below w.heap.size w w') : OwnsSet P k e w' b ns :=
 h.kept (row := none) ⟨hb.os, hb.tape, hb.output, hb.size, fun i hi _ => hb.block i hi⟩ (by simp)
theorem OwnsSet.made (w : World) (P : Program) (k e : TypeId) : OwnsSet P k e (w.alloc (.map #[] 0)) w.heap.size [] := World.ownsMap_made w P k _
/-- 's' is put in. -/
theorem OwnsSet.put {w' : World} {s : ByteArray} (h : w'.ownsMap P k (plainElem (H := Unit) P e) b (ns.length + 1) ((setD ns).put (.string s.data.toList) (.lit (.bool true)))) : OwnsSet P k e w' b (s :: ns) := h
end
end Go.Proofs.YtdppdonaojdceaaGreatDoor
