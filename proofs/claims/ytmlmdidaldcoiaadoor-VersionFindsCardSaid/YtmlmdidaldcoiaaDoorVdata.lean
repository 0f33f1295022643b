/- Versions as data: their texts, and which strings are one. No program. -/
import Derived.Test.YtmlmdidaldcoiaaDoorPlain
namespace Go.Proofs.YtmlmdidaldcoiaaDoor
open Go
set_option linter.unusedVariables false
set_option linter.unusedSimpArgs false

/-- A version: protocol, the two numbers, serialisation, size. -/
structure VD where
  p : ByteArray
  a : Int
  b : Int
  f : Int
  z : Int
def v0 : VD := ⟨⟨#[]⟩, 0, 0, 0, 0⟩
/-- Four capital letters. -/
def capL (l : List UInt8) : Bool := decide (l.length = 4) && l.all fun c => decide (65 ≤ c.toNat) && decide (c.toNat ≤ 90)
def inR (z m : Int) : Bool := decide (0 ≤ z) && decide (z ≤ m)
def validV (v : VD) : Bool := capL v.p.data.toList && (inR v.f 3 && !decide (v.f = 0)) && inR v.a 15 && inR v.b 15 && inR v.z 16777215
/-- One hexadecimal digit; so many of them. -/
def vhC (n : Nat) : UInt8 := if n < 10 then UInt8.ofNat (48 + n) else UInt8.ofNat (87 + n)
def vhL : Nat → Nat → List UInt8
  | 0, _ => []
  | k + 1, n => vhL k (n / 16) ++ [vhC (n % 16)]
def vhD (c : UInt8) : Option Nat := if 48 ≤ c.toNat ∧ c.toNat ≤ 57 then some (c.toNat - 48) else if 97 ≤ c.toNat ∧ c.toNat ≤ 102 then some (c.toNat - 87) else none
def vhN (l : List UInt8) : Option Nat := l.foldl (fun o c => o.bind fun n => (vhD c).map fun d => 16 * n + d) (some 0)
theorem vhL_length : ∀ k n, (vhL k n).length = k
  | 0, _ => rfl
  | k + 1, n => by rw [vhL, List.length_append, vhL_length k]; rfl
theorem vhN_snoc (l : List UInt8) (c : UInt8) : vhN (l ++ [c]) = (vhN l).bind fun n => (vhD c).map fun d => 16 * n + d := by unfold vhN; rw [List.foldl_append]; rfl
theorem vhD_C (n : Nat) (h : n < 16) : vhD (vhC n) = some n := by
  have : ∀ n : Fin 16, vhD (vhC n.1) = some n.1 := by decide
  exact this ⟨n, h⟩
theorem vhC_D {c : UInt8} {n : Nat} (h : vhD c = some n) : vhC n = c ∧ n < 16 := by
  have : ∀ k : Fin 256, ∀ n, vhD (UInt8.ofNat k.1) = some n → vhC n = UInt8.ofNat k.1 ∧ n < 16 := by
    have key : ∀ k : Fin 256, (match vhD (UInt8.ofNat k.1) with | some n => decide (vhC n = UInt8.ofNat k.1 ∧ n < 16) | none => true) = true := by decide +kernel
    intro k n h
    have := key k
    rw [h] at this
    exact of_decide_eq_true this
  have hc := this ⟨c.toNat, c.toNat_lt⟩ n
  rw [show UInt8.ofNat c.toNat = c from UInt8.ofNat_toNat] at hc
  exact hc h
theorem vhN_L : ∀ k n, n < 16 ^ k → vhN (vhL k n) = some n
  | 0, n, h => by have : n = 0 := by simpa using h
                  subst this; rfl
  | k + 1, n, h => by
    rw [vhL, vhN_snoc, vhN_L k (n / 16) (by rw [Nat.pow_succ] at h; omega), vhD_C _ (Nat.mod_lt _ (by decide))]
    show some (16 * (n / 16) + n % 16) = _
    congr 1; omega
theorem vhL_N : ∀ (k : Nat) (l : List UInt8) (n : Nat), l.length = k → vhN l = some n → vhL k n = l ∧ n < 16 ^ k
  | 0, l, n, hl, h => by
    rw [List.length_eq_zero_iff.1 hl] at h ⊢
    cases h; exact ⟨rfl, by decide⟩
  | k + 1, l, n, hl, h => by
    have hne : l ≠ [] := by intro e; subst e; cases hl
    rw [← List.dropLast_concat_getLast hne] at h ⊢
    have hdl : l.dropLast.length = k := by rw [List.length_dropLast]; omega
    generalize l.dropLast = t at h hdl ⊢
    generalize l.getLast hne = c at h ⊢
    rw [vhN_snoc] at h
    cases ht : vhN t with
    | none => rw [ht] at h; cases h
    | some m =>
      cases hd : vhD c with
      | none => rw [ht, hd] at h; cases h
      | some d =>
        rw [ht, hd] at h
        have h : 16 * m + d = n := Option.some.inj h
        obtain ⟨ih1, ih2⟩ := vhL_N k t m hdl ht
        obtain ⟨hc, hd16⟩ := vhC_D hd
        subst h
        refine ⟨?_, by rw [Nat.pow_succ]; omega⟩
        rw [vhL, show (16 * m + d) / 16 = m by omega, show (16 * m + d) % 16 = d by omega, ih1, hc]
/-- The name of a serialisation, and the serialisation of a name. -/
def formL (f : Int) : List UInt8 := if f = 1 then [74, 83, 79, 78] else if f = 2 then [67, 66, 79, 82] else if f = 3 then [77, 71, 80, 75] else []
def formN (l : List UInt8) : Int := if l = [74, 83, 79, 78] then 1 else if l = [67, 66, 79, 82] then 2 else if l = [77, 71, 80, 75] then 3 else 0
/-- The text of a version. -/
def textV (v : VD) : List UInt8 := v.p.data.toList ++ (vhL 1 v.a.toNat ++ (vhL 1 v.b.toNat ++ (formL v.f ++ (vhL 6 v.z.toNat ++ [95]))))
/-- What Text answers. -/
def vtS (v : VD) : ByteArray := if validV v then ⟨(textV v).toArray⟩ else ⟨#[]⟩
def vtE (v : VD) : Int := if validV v then 0 else 2
/-- The version with a text. -/
def parseV (l : List UInt8) : Option VD :=
  if l.length = 17 then
    match vhN ((l.drop 4).take 1), vhN ((l.drop 5).take 1), vhN ((l.drop 10).take 6) with
    | some a, some b, some z => if validV ⟨⟨(l.take 4).toArray⟩, a, b, formN ((l.drop 6).take 4), z⟩ ∧ l.drop 16 = [95] then some ⟨⟨(l.take 4).toArray⟩, a, b, formN ((l.drop 6).take 4), z⟩ else none
    | _, _, _ => none
  else none
def pvV (l : List UInt8) : VD := (parseV l).getD v0
def pvE (l : List UInt8) : Int := if (parseV l).isSome then 0 else 10
theorem validV_parts {v : VD} (h : validV v = true) : v.p.data.toList.length = 4 ∧ (v.f = 1 ∨ v.f = 2 ∨ v.f = 3) ∧ (0 ≤ v.a ∧ v.a ≤ 15) ∧ (0 ≤ v.b ∧ v.b ≤ 15) ∧ 0 ≤ v.z ∧ v.z ≤ 16777215 := by
  unfold validV capL inR at h
  simp only [Bool.and_eq_true, decide_eq_true_eq, Bool.not_eq_true', decide_eq_false_iff_not] at h
  obtain ⟨⟨⟨⟨⟨h1, h2⟩, h3⟩, h4⟩, h5⟩, h6⟩ := h
  exact ⟨h1, by omega, h4, h5, h6⟩
theorem parts17 {P A B F Z E : List UInt8} (hP : P.length = 4) (hA : A.length = 1) (hB : B.length = 1) (hF : F.length = 4) (hZ : Z.length = 6) (hE : E.length = 1) :
    (P ++ (A ++ (B ++ (F ++ (Z ++ E))))).length = 17 ∧ (P ++ (A ++ (B ++ (F ++ (Z ++ E))))).take 4 = P ∧ ((P ++ (A ++ (B ++ (F ++ (Z ++ E))))).drop 4).take 1 = A ∧ ((P ++ (A ++ (B ++ (F ++ (Z ++ E))))).drop 5).take 1 = B ∧ ((P ++ (A ++ (B ++ (F ++ (Z ++ E))))).drop 6).take 4 = F ∧ ((P ++ (A ++ (B ++ (F ++ (Z ++ E))))).drop 10).take 6 = Z ∧ (P ++ (A ++ (B ++ (F ++ (Z ++ E))))).drop 16 = E := by
  refine ⟨by simp only [List.length_append]; omega, ?_, ?_, ?_, ?_, ?_, ?_⟩ <;>
    simp [List.take_append, List.drop_append, hP, hA, hB, hF, hZ, hE, List.take_of_length_le, List.drop_eq_nil_of_le]
theorem formL_len {f : Int} (h : f = 1 ∨ f = 2 ∨ f = 3) : (formL f).length = 4 ∧ formN (formL f) = f := by rcases h with rfl | rfl | rfl <;> decide
theorem textV_length {v : VD} (h : validV v = true) : (textV v).length = 17 := by
  obtain ⟨h1, h2, h3, h4, h5⟩ := validV_parts h
  exact (parts17 h1 (vhL_length 1 _) (vhL_length 1 _) (formL_len h2).1 (vhL_length 6 _) rfl).1
theorem parse_text {v : VD} (h : validV v = true) : parseV (textV v) = some v := by
  obtain ⟨h1, h2, h3, h4, h5⟩ := validV_parts h
  obtain ⟨q0, q1, q2, q3, q4, q5, q6⟩ := parts17 h1 (vhL_length 1 v.a.toNat) (vhL_length 1 v.b.toNat) (formL_len h2).1 (vhL_length 6 v.z.toNat) (E := [95]) rfl
  have e : (⟨⟨v.p.data.toList.toArray⟩, (v.a.toNat : Int), (v.b.toNat : Int), v.f, (v.z.toNat : Int)⟩ : VD) = v := by
    obtain ⟨⟨⟨p⟩⟩, a, b, f, z⟩ := v
    simp only at h3 h4 h5 ⊢
    rw [Int.toNat_of_nonneg h3.1, Int.toNat_of_nonneg h4.1, Int.toNat_of_nonneg h5.1]
  unfold parseV
  rw [if_pos (show (textV v).length = 17 from q0)]
  unfold textV at *
  rw [q1, q2, q3, q4, q5, q6, vhN_L 1 _ (by omega), vhN_L 1 _ (by omega), vhN_L 6 _ (by omega), (formL_len h2).2]
  show (if _ then _ else _) = _
  rw [e, if_pos ⟨h, rfl⟩]
theorem parse_inv {l : List UInt8} {v : VD} (h : parseV l = some v) : validV v = true ∧ textV v = l := by
  unfold parseV at h
  split at h
  · rename_i hl
    split at h
    · rename_i a b z ha hb hz
      split at h
      · rename_i hv
        cases h
        refine ⟨hv.1, ?_⟩
        obtain ⟨h1, h2, h3, h4, h5⟩ := validV_parts hv.1
        have e1 := (vhL_N 1 _ _ (by simp; omega) ha).1
        have e2 := (vhL_N 1 _ _ (by simp; omega) hb).1
        have e3 := (vhL_N 6 _ _ (by simp; omega) hz).1
        have e4 : formL (formN ((l.drop 6).take 4)) = (l.drop 6).take 4 := by
          have h2 : formN ((l.drop 6).take 4) = 1 ∨ formN ((l.drop 6).take 4) = 2 ∨ formN ((l.drop 6).take 4) = 3 := h2
          generalize (l.drop 6).take 4 = x at h2 ⊢
          unfold formN at h2 ⊢
          split at h2
          · rename_i e; rw [if_pos e, e]; rfl
          · rename_i e1; rw [if_neg e1]; split at h2
            · rename_i e; rw [if_pos e, e]; rfl
            · rename_i e2; rw [if_neg e2]; split at h2
              · rename_i e; rw [if_pos e, e]; rfl
              · omega
        show l.take 4 ++ (vhL 1 ((a : Int).toNat) ++ (vhL 1 ((b : Int).toNat) ++ (formL (formN ((l.drop 6).take 4)) ++ (vhL 6 ((z : Int).toNat) ++ [95])))) = l
        rw [Int.toNat_natCast, Int.toNat_natCast, Int.toNat_natCast, e1, e2, e3, e4, ← hv.2]
        have d5 : (l.drop 10).take 6 ++ l.drop 16 = l.drop 10 := by rw [show l.drop 16 = (l.drop 10).drop 6 by rw [List.drop_drop], List.take_append_drop]
        have d4 : (l.drop 6).take 4 ++ l.drop 10 = l.drop 6 := by rw [show l.drop 10 = (l.drop 6).drop 4 by rw [List.drop_drop], List.take_append_drop]
        have d3 : (l.drop 5).take 1 ++ l.drop 6 = l.drop 5 := by rw [show l.drop 6 = (l.drop 5).drop 1 by rw [List.drop_drop], List.take_append_drop]
        have d2 : (l.drop 4).take 1 ++ l.drop 5 = l.drop 4 := by rw [show l.drop 5 = (l.drop 4).drop 1 by rw [List.drop_drop], List.take_append_drop]
        rw [d5, d4, d3, d2, List.take_append_drop]
      · cases h
    · cases h
  · cases h
theorem parse_iff {l : List UInt8} {v : VD} : parseV l = some v ↔ validV v = true ∧ textV v = l :=
  ⟨parse_inv, fun h => h.2 ▸ parse_text h.1⟩
/-- The first version that stands in a string, from a place on, at so many places. -/
def findV (l : List UInt8) : Nat → Nat → Option (VD × Nat)
  | 0, _ => none
  | n + 1, i => if i + 17 ≤ l.length then match parseV ((l.drop i).take 17) with
      | some v => some (v, i)
      | none => findV l n (i + 1)
    else none
def fdV (l : List UInt8) : VD := match findV l 25 0 with | some x => x.1 | none => v0
def fdP (l : List UInt8) : Int := match findV l 25 0 with | some x => (x.2 : Int) | none => 0
def fdE (l : List UInt8) : Int := if (findV l 25 0).isSome then 0 else 10
theorem findV_skip (l : List UInt8) : ∀ (k n i : Nat), (∀ j, i ≤ j → j < i + k → parseV ((l.drop j).take 17) = none) → i + k + 17 ≤ l.length → findV l (k + n) i = findV l n (i + k)
  | 0, n, i, _, _ => by rw [Nat.zero_add, Nat.add_zero]
  | k + 1, n, i, h, hl => by
    rw [show k + 1 + n = (k + n) + 1 by omega, findV, if_pos (by omega), h i (Nat.le_refl _) (by omega)]
    rw [show i + (k + 1) = i + 1 + k by omega]
    exact findV_skip l k n (i + 1) (fun j h1 h2 => h j (by omega) (by omega)) (by omega)
/-- A text that does not begin with four capital letters is no version's. -/
theorem parse_cap {l : List UInt8} (h : capL (l.take 4) = false) : parseV l = none := by
  cases hp : parseV l with
  | none => rfl
  | some v =>
    obtain ⟨h1, h2⟩ := parse_inv hp
    have h4 := (validV_parts h1).1
    have : v.p.data.toList = l.take 4 := by rw [← h2]; unfold textV; rw [List.take_append_of_le_length (by omega), List.take_of_length_le (by omega)]
    unfold validV at h1
    rw [this, h] at h1
    cases h1
end Go.Proofs.YtmlmdidaldcoiaaDoor
