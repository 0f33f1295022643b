/- The maps that the program makes anew for each call: letters, words. -/
import Derived.Test.YtdppdonaojdceaaGreatDoorBset
import Derived.Test.YtdppdonaojdceaaGreatDoorJback
import Derived.Maps.StringElems
namespace Go.Proofs.YtdppdonaojdceaaGreatDoor
open Go Go.Maps Go.ChangeShapes Go.WideShapes Go.ChangeAt Go.RowKit
set_option linter.unusedVariables false
set_option linter.unusedSimpArgs false

/-- A literal's entry is laid into a map that the call makes. -/
theorem wpList_insert_own {H : Type} {P : Program} (w : World) {ops : Array Oper} {rest : List Oper} {o : Oper} {a : Act} {Q : Exit → Act → World → Prop}
  (hg : o.guard = none) (m x v : Operand) (t : TypeId) (hop : o.op = Op.insert t m x v)
  (k e : TypeId) (K : Keyed P k) (ht : P.underlying t = some (.map k e)) (R : Value → Option (DataW H × List MemPlace)) (b n : Nat) (D : DataW H)
  (hm : a.eval m = .map (some b)) (hown : w.ownsMap P k R b n D) (hn : n < maxLen) (key val : Value) (kl : Lit) (hx : a.eval x = key) (hv : a.eval v = val) (hkey : keyOf P k key = some kl)
  (d : DataW H) (ps : List MemPlace) (hval : R val = some (d, ps))
  (hK : ∀ w', w'.ownsMap P k R b (n + 1) (D.put kl d) → w.grownBy w' (some b) → wpList P ops Q rest (a.put o.dst undef) w') :
  wpList P ops Q (o :: rest) a w := by
 refine wpList_plain hg fun K' hK' => ?_
 obtain ⟨w', hrun, r1, r2⟩ := hown.update K ht hn hkey hval
 unfold Oper.wp
 simp [execOp, hop, hm, hx, hv, hrun, Result.andThen]
 exact hK' _ _ (hK w' r1 r2)
theorem putZ_has {D : DataW Unit} (hD : IsMap D) (q : IntKind) (c l : Int) (d : DataW Unit) : Maps.has (D.put (.int q c) d) (.int q l) = (decide (l = c) || Maps.has D (.int q l)) := by
 by_cases h : l = c
 ·subst h; rw [has_put_same hD (show WideAt.IsKeyLit (.int q l) from trivial), decide_eq_true rfl]; rfl
 ·rw [has_put_other (by intro e; cases e; exact h rfl), decide_eq_false h]; rfl
theorem putZ_at {D : DataW Unit} (hD : IsMap D) (q : IntKind) (c l : Int) (d z : DataW Unit) : (D.put (.int q c) d).atKey (.int q l) z = if l = c then d else D.atKey (.int q l) z := by
 by_cases h : l = c
 ·subst h; rw [atKey_put_same hD (show WideAt.IsKeyLit (.int q l) from trivial), if_pos rfl]
 ·rw [atKey_put_other (by intro e; cases e; exact h rfl), if_neg h]
theorem putS_has {D : DataW Unit} (hD : IsMap D) (c l : List UInt8) (d : DataW Unit) : Maps.has (D.put (.string c) d) (.string l) = (decide (l = c) || Maps.has D (.string l)) := by
 by_cases h : l = c
 ·subst h; rw [has_put_same hD (show WideAt.IsKeyLit (.string l) from trivial), decide_eq_true rfl]; rfl
 ·rw [has_put_other (by intro e; cases e; exact h rfl), decide_eq_false h]; rfl
theorem putS_at {D : DataW Unit} (hD : IsMap D) (c l : List UInt8) (d z : DataW Unit) : (D.put (.string c) d).atKey (.string l) z = if l = c then d else D.atKey (.string l) z := by
 by_cases h : l = c
 ·subst h; rw [atKey_put_same hD (show WideAt.IsKeyLit (.string l) from trivial), if_pos rfl]
 ·rw [atKey_put_other (by intro e; cases e; exact h rfl), if_neg h]
/-- The letters as data. -/
def lettersD : DataW Unit := ((((((((DataW.map []).put (.int .u8 34) (.lit (.string [34]))).put (.int .u8 92) (.lit (.string [92]))).put (.int .u8 8) (.lit (.string [98]))).put (.int .u8 9) (.lit (.string [116]))).put (.int .u8 10) (.lit (.string [110]))).put (.int .u8 12) (.lit (.string [102]))).put (.int .u8 13) (.lit (.string [114])))
/-- The letter of a character, if it has one. -/
def letZ (c : Int) : Option UInt8 := if c = 34 then some 34 else if c = 92 then some 92 else if c = 8 then some 98 else if c = 9 then some 116 else if c = 10 then some 110 else if c = 12 then some 102 else if c = 13 then some 114 else none
theorem letters_look (c : Int) : Maps.has lettersD (.int .u8 c) = (letZ c).isSome ∧ ∀ z, lettersD.atKey (.int .u8 c) z = match letZ c with | some l => .lit (.string [l]) | none => z := by
 have i0 : IsMap (.map [] : DataW Unit) := isMap_empty
 have i1 := i0.put (.int .u8 34) (.lit (.string [34]))
 have i2 := i1.put (.int .u8 92) (.lit (.string [92]))
 have i3 := i2.put (.int .u8 8) (.lit (.string [98]))
 have i4 := i3.put (.int .u8 9) (.lit (.string [116]))
 have i5 := i4.put (.int .u8 10) (.lit (.string [110]))
 have i6 := i5.put (.int .u8 12) (.lit (.string [102]))
 unfold lettersD
 refine ⟨?_, fun z => ?_⟩
 ·rw [putZ_has i6, putZ_has i5, putZ_has i4, putZ_has i3, putZ_has i2, putZ_has i1, putZ_has i0, show Maps.has (.map [] : DataW Unit) (.int .u8 c) = false from rfl]
  unfold letZ
  by_cases h1 : c = 13
  ·subst h1; rfl
  by_cases h2 : c = 12
  ·subst h2; rfl
  by_cases h3 : c = 10
  ·subst h3; rfl
  by_cases h4 : c = 9
  ·subst h4; rfl
  by_cases h5 : c = 8
  ·subst h5; rfl
  by_cases h6 : c = 92
  ·subst h6; rfl
  by_cases h7 : c = 34
  ·subst h7; rfl
  simp [h1, h2, h3, h4, h5, h6, h7]
 ·rw [putZ_at i6, putZ_at i5, putZ_at i4, putZ_at i3, putZ_at i2, putZ_at i1, putZ_at i0, show (.map [] : DataW Unit).atKey (.int .u8 c) z = z from rfl]
  unfold letZ
  by_cases h1 : c = 13
  ·subst h1; rfl
  by_cases h2 : c = 12
  ·subst h2; rfl
  by_cases h3 : c = 10
  ·subst h3; rfl
  by_cases h4 : c = 9
  ·subst h4; rfl
  by_cases h5 : c = 8
  ·subst h5; rfl
  by_cases h6 : c = 92
  ·subst h6; rfl
  by_cases h7 : c = 34
  ·subst h7; rfl
  simp [h1, h2, h3, h4, h5, h6, h7]
theorem lawU8 : Keyed Tryz.prog 5 := int_keyed Tryz.underlying5
theorem zeroStrE (w : World) : (zeroValue 9).run Tryz.prog w = .ok (.string ⟨#[]⟩) w := by kernel_rfl
/-- Block m is the map of the letters. -/
def Letters (w : World) (m : Nat) : Prop := w.ownsMap Tryz.prog 5 (plainElem (H := Unit) Tryz.prog 9) m 7 lettersD
theorem Letters.kept {w w' : World} {m : Nat} {row : Option Nat} (h : Letters w m) (hg : w.grownBy w' row) (hne : some m ≠ row) : Letters w' m := World.ownsMap.kept h hg hne
theorem Letters.below {w w' : World} {m : Nat} (h : Letters w m) (hb : Below w.heap.size w w') : Letters w' m := h.kept (grown_of_below hb (Nat.le_refl _) none) (by simp)
theorem Letters.same {w w' : World} {m : Nat} (h : Letters w m) (hb : w'.heap[m]? = w.heap[m]?) : Letters w' m := by
 obtain ⟨es, clock, h1, F, hs, hD⟩ := h
 exact ⟨es, clock, hb.trans h1, F, hs, hD⟩
theorem Letters.lt {w : World} {m : Nat} (h : Letters w m) : m < w.heap.size := World.ownsMap.lt h
theorem Letters.look {w : World} {m : Nat} (h : Letters w m) {c : Int} (hc : 0 ≤ c) (hc2 : c ≤ 255) : (Instr.lookup 76 (.map (some m)) (.int .u8 c) true).run Tryz.prog w = .ok (.tuple #[.string (match letZ c with | some l => ⟨#[l]⟩ | none => ⟨#[]⟩), .bool (letZ c).isSome]) w := by
 have hwf : (Lit.int IntKind.u8 c).wf = true := by simp [Lit.wf, IntKind.min, IntKind.max, IntKind.signed, IntKind.bits]; omega
 obtain ⟨v, ps, hrun, hv⟩ := World.ownsMap.look_ok h lawU8 Tryz.underlying76 (zeroStrE w) (plainElem_string Tryz.underlying9 (by decide)) (keyOf_int_mk Tryz.underlying5 hwf)
 obtain ⟨s, rfl, e', _⟩ := plainElem_string_inv Tryz.underlying9 hv
 obtain ⟨l1, l2⟩ := letters_look c
 rw [hrun, l1]
 rw [l2] at e'
 have hs : s = (match letZ c with | some l => ⟨#[l]⟩ | none => ⟨#[]⟩) := by
  cases hq : letZ c with
  | none =>
   rw [hq] at e'
   simp only [Prod.mk.injEq, DataW.lit.injEq, Lit.string.injEq] at e'
   exact ByteArray.ext (Array.toList_inj.1 e'.1.symm)
  | some l =>
   rw [hq] at e'
   simp only [Prod.mk.injEq, DataW.lit.injEq, Lit.string.injEq] at e'
   exact ByteArray.ext (Array.toList_inj.1 e'.1.symm)
 rw [← hs]
set_option maxHeartbeats 1600000 in
set_option maxRecDepth 100000 in
theorem letters_any (w : World) : Calls Tryz.prog 62 #[] w fun e w' => e = .returned (.map (some w.heap.size)) ∧ Letters w' w.heap.size ∧ Below w.heap.size w w' := by
 have hmm := @run_makeMap Tryz.prog
 have h0 := World.ownsMap_made (H := Unit) w Tryz.prog 5 (plainElem (H := Unit) Tryz.prog 9)
 have b0 := (Below.refl w.heap.size w).alloc (o := .map #[] 0) (Nat.le_refl _)
 have H0 := Lib.hid h0
 have B0 := Lib.hid b0
 clear h0 b0
 go_enter Tryz.func62, Tryz.ntmps62
 go_wp2_with (first
  | (refine wpList_insert_own _ rfl _ _ _ 76 rfl 5 9 lawU8 Tryz.underlying76 _ w.heap.size 6 _ rfl h6 (by unfold maxLen; omega) _ _ _ rfl rfl (keyOf_int_mk Tryz.underlying5 (a := 13) (by decide)) _ [] (plainElem_string Tryz.underlying9 (s := ⟨#[114]⟩) (by decide)) ?_; intro w7 h7 g7; (have b7 := gbelow b6 g7 (b6.size) (Nat.le_refl _)))
  | (refine wpList_insert_own _ rfl _ _ _ 76 rfl 5 9 lawU8 Tryz.underlying76 _ w.heap.size 5 _ rfl h5 (by unfold maxLen; omega) _ _ _ rfl rfl (keyOf_int_mk Tryz.underlying5 (a := 12) (by decide)) _ [] (plainElem_string Tryz.underlying9 (s := ⟨#[102]⟩) (by decide)) ?_; intro w6 h6 g6; (have b6 := gbelow b5 g6 (b5.size) (Nat.le_refl _)))
  | (refine wpList_insert_own _ rfl _ _ _ 76 rfl 5 9 lawU8 Tryz.underlying76 _ w.heap.size 4 _ rfl h4 (by unfold maxLen; omega) _ _ _ rfl rfl (keyOf_int_mk Tryz.underlying5 (a := 10) (by decide)) _ [] (plainElem_string Tryz.underlying9 (s := ⟨#[110]⟩) (by decide)) ?_; intro w5 h5 g5; (have b5 := gbelow b4 g5 (b4.size) (Nat.le_refl _)))
  | (refine wpList_insert_own _ rfl _ _ _ 76 rfl 5 9 lawU8 Tryz.underlying76 _ w.heap.size 3 _ rfl h3 (by unfold maxLen; omega) _ _ _ rfl rfl (keyOf_int_mk Tryz.underlying5 (a := 9) (by decide)) _ [] (plainElem_string Tryz.underlying9 (s := ⟨#[116]⟩) (by decide)) ?_; intro w4 h4 g4; (have b4 := gbelow b3 g4 (b3.size) (Nat.le_refl _)))
  | (refine wpList_insert_own _ rfl _ _ _ 76 rfl 5 9 lawU8 Tryz.underlying76 _ w.heap.size 2 _ rfl h2 (by unfold maxLen; omega) _ _ _ rfl rfl (keyOf_int_mk Tryz.underlying5 (a := 8) (by decide)) _ [] (plainElem_string Tryz.underlying9 (s := ⟨#[98]⟩) (by decide)) ?_; intro w3 h3 g3; (have b3 := gbelow b2 g3 (b2.size) (Nat.le_refl _)))
  | (refine wpList_insert_own _ rfl _ _ _ 76 rfl 5 9 lawU8 Tryz.underlying76 _ w.heap.size 1 _ rfl h1 (by unfold maxLen; omega) _ _ _ rfl rfl (keyOf_int_mk Tryz.underlying5 (a := 92) (by decide)) _ [] (plainElem_string Tryz.underlying9 (s := ⟨#[92]⟩) (by decide)) ?_; intro w2 h2 g2; (have b2 := gbelow b1 g2 (b1.size) (Nat.le_refl _)))
  | (refine wpList_insert_own _ rfl _ _ _ 76 rfl 5 9 lawU8 Tryz.underlying76 _ w.heap.size 0 _ rfl H0.out (by unfold maxLen; omega) _ _ _ rfl rfl (keyOf_int_mk Tryz.underlying5 (a := 34) (by decide)) _ [] (plainElem_string Tryz.underlying9 (s := ⟨#[34]⟩) (by decide)) ?_; intro w1 h1 g1; (have b1 := gbelow B0.out g1 (B0.out.size) (Nat.le_refl _))))
 go_ret
 exact ⟨rfl, h7, b7⟩
end Go.Proofs.YtdppdonaojdceaaGreatDoor
