/- The dice of the statements' inputs (Light, Roll, Next, Bytes, Primitive): what comes out of them is some number below the bound, some string of the length, some primitive; only their own block is written. And the sanity check of the statements of primitive. -/
import Derived.Test.YtmlmdidaldcoiaaGreatDoorJdoor
import Derived.Deep.DeepCutAuto
import Derived.Maps.OwnSet
import Derived.Maps.Own
import Derived.Maps.OwnOps
import Derived.Maps.StringElems
import Derived.BigQuiet
import Derived.Lib.TrimUEq
namespace Go.Proofs.YtmlmdidaldcoiaaGreatDoor
open Go.ChangeShapes Go.WideShapes Go.ChangeAt Go.RowKit
set_option linter.unusedVariables false
set_option linter.unusedSimpArgs false

/-- A slice of numbers below block B. -/
def NumsB (B : Nat) (w : World) (a : Option Addr) (len cap : Nat) (zs : List Int) : Prop :=
 len ≤ cap ∧ cap ≤ maxLen ∧ (∀ i, i < cap → ∃ b off, a = some ⟨b, off, none⟩ ∧ b < B ∧ w.cell? ⟨b, off + i, none⟩ = some (.int .i64 (zs.getD i 0))) ∧ ∀ i, -9223372036854775808 ≤ zs.getD i 0 ∧ zs.getD i 0 ≤ 9223372036854775807
theorem NumsB.of_row {w : World} {a : Option Addr} {len cap : Nat} {zs : List Int} (h : IsRow .i64 w a len cap zs) : NumsB w.heap.size w a len cap zs := by
 obtain ⟨h1, h2, h3, h4, h5⟩ := h
 refine ⟨h1, h2, h4, fun i => ?_⟩
 rcases Nat.lt_or_ge i zs.length with h | h
 ·have hm : zs.getD i 0 ∈ zs := by rw [List.getD, List.getElem?_eq_getElem h]; exact List.getElem_mem h
  exact bounds_i64 (h5 _ hm)
 ·rw [List.getD, List.getElem?_eq_none h]; decide
theorem NumsB.same {B : Nat} {w w' : World} {a : Option Addr} {len cap : Nat} {zs : List Int} (h : NumsB B w a len cap zs) (hb : ∀ j, j < B → w'.heap[j]? = w.heap[j]?) : NumsB B w' a len cap zs := by
 obtain ⟨h1, h2, h3, h4⟩ := h
 refine ⟨h1, h2, fun i hi => ?_, h4⟩
 obtain ⟨b, off, e, hbB, hc⟩ := h3 i hi
 refine ⟨b, off, e, hbB, ?_⟩
 rw [← hc]
 simp only [World.cell?, hb b hbB]

/-- Block g, from B on, holds dice over numbers below B. -/
def DiceAt (B : Nat) (w : World) (g : Nat) : Prop :=
 ∃ a len cap k zs, B ≤ g ∧ w.heap[g]? = some (.cells #[.slice a len cap, .int .i64 ((k : Nat) : Int)] 50 (0, 0)) ∧ k ≤ len ∧ NumsB B w a len cap zs
theorem DiceAt.lt {B g : Nat} {w : World} (h : DiceAt B w g) : g < w.heap.size := by
 obtain ⟨_, _, _, _, _, _, h, _⟩ := h
 exact lt_of_block h
theorem DiceAt.same {B g : Nat} {w w' : World} (h : DiceAt B w g) (hb : ∀ j, j ≤ g → w'.heap[j]? = w.heap[j]?) : DiceAt B w' g := by
 obtain ⟨a, len, cap, k, zs, hB, hh, hk, hn⟩ := h
 exact ⟨a, len, cap, k, zs, hB, (hb g (Nat.le_refl _)).trans hh, hk, hn.same fun j hj => hb j (by omega)⟩
theorem DiceAt.below {B g C : Nat} {w w' : World} (h : DiceAt B w g) (hg : g < C) (hb : Below C w w') : DiceAt B w' g := h.same fun j hj => hb.block j (by omega)
theorem DiceAt.go {B g : Nat} {w w' : World} (h : DiceAt B w g) (hb : Below w.heap.size w w') : DiceAt B w' g := h.below h.lt hb
theorem grown_of_below {w w' : World} {C : Nat} (hb : Below C w w') (hC : w.heap.size ≤ C) (row : Option Nat) : w.grownBy w' row :=
 ⟨hb.os, hb.tape, hb.output, hb.size, fun i hi _ => hb.block i (by omega)⟩
theorem keepG {w w' : World} {g h : Nat} {o : Obj} (hg : w.grownBy w' (some g)) (hne : h ≠ g) (hh : w.heap[h]? = some o) : w'.heap[h]? = some o :=
 (hg.block h (lt_of_block hh) (by intro e; cases e; exact hne rfl)).trans hh

set_option maxRecDepth 100000 in
theorem light_any (a : Option Addr) (len cap : Nat) (w : World) : Calls Tryz.prog 5 #[.slice a len cap] w fun e w' => e = .returned (.bool (decide ((len : Int) ≤ 500))) ∧ w = w' := by
 go_enter Tryz.func5, Tryz.ntmps5
 go_wp2
 go_ret
 exact ⟨rfl, rfl⟩
set_option maxRecDepth 100000 in
theorem roll_any (a : Option Addr) (len cap : Nat) (zs : List Int) (w : World) (h : NumsB w.heap.size w a len cap zs) : Calls Tryz.prog 7 #[.slice a len cap] w fun e w' => e = .returned (.pointer (some ⟨w.heap.size, 0, none⟩)) ∧ Below w.heap.size w w' ∧ DiceAt w.heap.size w' w.heap.size := by
 have HN := Lib.hid h
 clear h
 go_enter Tryz.func7, Tryz.ntmps7
 go_wp2
 go_ret
 refine ⟨rfl, (Below.refl _ _).alloc (Nat.le_refl _) _, a, len, cap, 0, zs, Nat.le_refl _, heap_alloc_new _ _, Nat.zero_le _, HN.out.same fun j hj => ?_⟩
 exact Below.heap_alloc _ _ j hj
theorem grown_set1 (w : World) (g : Nat) (v : Value) : w.grownBy (w.setCell ⟨g, 1, none⟩ v) (some g) :=
 ⟨rfl, rfl, rfl, by simp [World.setCell], fun i _ hne => heap_setCell_other w ⟨g, 1, none⟩ i v (fun e => hne (by rw [e]))⟩
theorem grown_drewN {a w : World} {row : Option Nat} (h : a.grownBy w row) (n : Nat) : a.grownBy (w.drewN n) row := ⟨h.os, h.tape, h.output, h.size, h.block⟩
set_option maxHeartbeats 800000 in
set_option maxRecDepth 100000 in
theorem next_any (B g : Nat) (n : Nat) (w : World) (h1 : 1 ≤ n) (hn : n < 2 ^ 62) (hd : DiceAt B w g) : Calls Tryz.prog 18 #[.pointer (some ⟨g, 0, none⟩), .int .i64 (n : Int)] w fun e w' => (∃ k : Nat, k < n ∧ e = .returned (.int .i64 (k : Int))) ∧ w.grownBy w' (some g) ∧ DiceAt B w' g := by
 obtain ⟨a, len, cap, k, zs, hB, hh, hk, hN⟩ := hd
 have hc := two_of hh
 have hf := free_two hh
 have hN' := hN
 obtain ⟨hlc, hcm, hcell, hbd⟩ := hN
 unfold maxLen at hcm
 by_cases hlt : k < len
 ·obtain ⟨b, off, rfl, hbB, hcx⟩ := hcell k (by omega)
  obtain ⟨z, hz⟩ : ∃ z, z = zs.getD k 0 := ⟨_, rfl⟩
  have hzb := hbd k
  rw [← hz] at hcx hzb
  have M := Lib.hid (fun (wx : World) => mod_any z n wx h1 hn hzb.1 hzb.2)
  obtain ⟨m, hm⟩ : ∃ m : Nat, z % (n : Int) = (m : Int) := ⟨(z % (n : Int)).toNat, by have := Int.emod_nonneg z (b := (n : Int)) (by omega); omega⟩
  have hmn : m < n := by have := Int.emod_lt_of_pos z (b := (n : Int)) (by omega); omega
  rw [hm] at M
  have HN := Lib.hid hN'
  have HH := Lib.hid hh
  have hne : b ≠ g := by omega
  clear hN' hcell hbd hz hm hh
  go_enter Tryz.func18, Tryz.ntmps18
  have hkl : (k : Int) < (len : Int) := by omega
  have hkl2 : k < len := hlt
  go_wp2
  go_quiet (fail)
  go_wp2
  have hB1 := two_set1 (w := w.drewN nq) HH.out (.int .i64 ((k : Int) + 1))
  have hs1 := two_of hB1
  have hcx1 : ((w.drewN nq).setCell ⟨g, 1, none⟩ (.int .i64 ((k : Int) + 1))).cell? ⟨b, off + k, none⟩ = some (.int .i64 z) := by
   rw [← hcx]
   simp only [World.cell?, heap_setCell_other (w.drewN nq) ⟨g, 1, none⟩ b _ hne]
   rfl
  have ek : (k : Int) + 1 - 1 = (k : Int) := by omega
  have e1 : IntKind.i64.wrap ((k : Int) + 1 - 1) = (k : Int) := by rw [ek]; exact w64 _ (by omega)
  have gg := gtrans (grown_drewN (World.grownBy.refl w (some g)) nq) (grown_set1 (w.drewN nq) g (.int .i64 ((k : Int) + 1)))
  have hk0 : (0 : Int) ≤ (k : Int) := by omega
  have hd0 := hs1.1
  have hd1 := hs1.2
  have HB1 := Lib.hid hB1
  have HD := Lib.hid (HN.out.same (w' := (w.drewN nq).setCell ⟨g, 1, none⟩ (.int .i64 ((k : Int) + 1))) fun j hj => heap_setCell_other (w.drewN nq) ⟨g, 1, none⟩ j _ (show j ≠ g by omega))
  clear hc hcx hs1 hB1
  go_quiet (first | (go_at_call 10; (with_reducible refine (M.out _).mono ?_); exact fun e u h => ⟨h.1, _, h.2.symm⟩))
  go_wp2
  go_ret
  refine ⟨⟨m, hmn, rfl⟩, grown_drewN gg _, _, len, cap, k + 1, zs, hB, HB1.out, by omega, HD.out⟩
 ·have HN := Lib.hid hN'
  have HH := Lib.hid hh
  have hge : (len : Int) ≤ (k : Int) := by omega
  have hge2 : len ≤ k := by omega
  clear hN' hcell hbd hh
  go_enter Tryz.func18, Tryz.ntmps18
  go_wp2
  go_quiet (fail)
  go_wp2
  go_ret
  refine ⟨⟨0, by omega, rfl⟩, grown_drewN (World.grownBy.refl w _) _, a, len, cap, k, zs, hB, HH.out, by omega, HN.out⟩

/-- What is owned from block C on is left alone where an elder block is written. -/
theorem owns_grown {w w' : World} {C e size n g : Nat} {v : Value} {xs : List Value} (h : w.ownsRow C e size v n xs) (hg : w.grownBy w' (some g)) (hlt : g < C) : w'.ownsRow C e size v n xs := by
 obtain ⟨h1, h2 | ⟨g', cap, cur, hv, hC, hh, r⟩⟩ := h
 ·exact ⟨h1, .inl h2⟩
 ·exact ⟨h1, .inr ⟨g', cap, cur, hv, hC, keepG hg (by omega) hh, r⟩⟩
/-- A write into what is owned from block C on leaves the blocks below alone. -/
theorem own_kept {a b : World} {C e size n : Nat} {v : Value} {xs : List Value} (h : a.ownsRow C e size v n xs) (k : a.grownBy b v.ownBlock) (j : Nat) (hj : j < C) (hs : j < a.heap.size) : b.heap[j]? = a.heap[j]? := by
 refine k.block j hs fun e => ?_
 obtain ⟨_, ⟨rfl, _⟩ | ⟨g', cap, cur, rfl, hC, _⟩⟩ := h
 ·simp [Value.ownBlock] at e
 ·simp [Value.ownBlock] at e; omega
theorem grown_own {W a b : World} {C e size n : Nat} {v : Value} {xs : List Value} {row : Option Nat} (h : W.grownBy a row) (hown : a.ownsRow C e size v n xs) (k : a.grownBy b v.ownBlock) (hC : W.heap.size ≤ C) : W.grownBy b row :=
 ⟨k.os.trans h.os, k.tape.trans h.tape, k.output.trans h.output, Nat.le_trans h.size k.size, fun j hj hne => (own_kept hown k j (by omega) (Nat.lt_of_lt_of_le hj h.size)).trans (h.block j hj hne)⟩

theorem next_lit (B g : Nat) (n : Nat) (z : Int) (hz : (n : Int) = z) (w : World) (h1 : 1 ≤ n) (hn : n < 2 ^ 62) (hd : DiceAt B w g) : Calls Tryz.prog 18 #[.pointer (some ⟨g, 0, none⟩), .int .i64 z] w fun e w' => (∃ k : Nat, k < n ∧ e = .returned (.int .i64 (k : Int))) ∧ w.grownBy w' (some g) ∧ DiceAt B w' g := hz ▸ next_any B g n w h1 hn hd
def strSize : Value → Nat
 | .string s => s.size
 | _ => 0
theorem DiceAt.setNew {B g : Nat} {w : World} (h : DiceAt B w g) {k : Nat} (hk : g < k) (o : Nat) (v : Value) : DiceAt B (w.setCell ⟨k, o, none⟩ v) g :=
 h.same fun j hj => heap_setCell_other w ⟨k, o, none⟩ j v (show j ≠ k by omega)

end Go.Proofs.YtmlmdidaldcoiaaGreatDoor
/- Maps that a call makes: a literal's entries, what stands at a key. No program. -/
namespace Go.Proofs.YtmlmdidaldcoiaaGreatDoor
open Go Go.Maps Go.ChangeShapes Go.WideShapes Go.ChangeAt Go.RowKit
set_option linter.unusedVariables false
set_option linter.unusedSimpArgs false

/-- A literal's entry is laid into a map that the call makes. -/
theorem wpList_insert_own {H : Type} {P : Program} (w : World) {ops : Array Oper} {rest : List Oper} {o : Oper} {a : Act} {Q : Exit → Act → World → Prop}
  (hg : o.guard = none) (m x v : Operand) (t : TypeId) (hop : o.op = Op.insert t m x v)
  (k e : TypeId) (K : Keyed P k) (ht : P.underlying t = some (.map k e)) (R : Value → Option (DataW H × List MemPlace)) (b n : Nat) (D : DataW H)
  (hm : a.eval m = .map (some b)) (hown : w.ownsMap P k R b n D) (hn : n < maxLen) (key val : Value) (kl : Lit) (hx : a.eval x = key) (hv : a.eval v = val) (hkey : keyOf P k key = some kl)
  (d : DataW H) (ps : List MemPlace) (hval : R val = some (d, ps))
  (hK : ∀ w', w'.ownsMap P k R b (n + 1) (D.put kl d) → w.grownBy w' (some b) → wpList P ops Q rest (a.put o.dst undef) w') :
  wpList P ops Q (o :: rest) a w := by
 refine wpList_plain hg fun K' hK' => ?_
 obtain ⟨w', hrun, r1, r2⟩ := hown.update K ht hn hkey hval
 unfold Oper.wp
 simp [execOp, hop, hm, hx, hv, hrun, Result.andThen]
 exact hK' _ _ (hK w' r1 r2)
theorem putZ_has {D : DataW Unit} (hD : IsMap D) (q : IntKind) (c l : Int) (d : DataW Unit) : Maps.has (D.put (.int q c) d) (.int q l) = (decide (l = c) || Maps.has D (.int q l)) := by
 by_cases h : l = c
 ·subst h; rw [has_put_same hD (show WideAt.IsKeyLit (.int q l) from trivial), decide_eq_true rfl]; rfl
 ·rw [has_put_other (by intro e; cases e; exact h rfl), decide_eq_false h]; rfl
theorem putZ_at {D : DataW Unit} (hD : IsMap D) (q : IntKind) (c l : Int) (d z : DataW Unit) : (D.put (.int q c) d).atKey (.int q l) z = if l = c then d else D.atKey (.int q l) z := by
 by_cases h : l = c
 ·subst h; rw [atKey_put_same hD (show WideAt.IsKeyLit (.int q l) from trivial), if_pos rfl]
 ·rw [atKey_put_other (by intro e; cases e; exact h rfl), if_neg h]
end Go.Proofs.YtmlmdidaldcoiaaGreatDoor
/- Versions as data: their texts, and which strings are one. No program. -/
namespace Go.Proofs.YtmlmdidaldcoiaaGreatDoor
open Go
set_option linter.unusedVariables false
set_option linter.unusedSimpArgs false

/-- A version: protocol, the two numbers, serialisation, size. -/
structure VD where
 p : ByteArray
 a : Int
 b : Int
 f : Int
 z : Int
def v0 : VD := ⟨⟨#[]⟩, 0, 0, 0, 0⟩
/-- Four capital letters. -/
def capL (l : List UInt8) : Bool := decide (l.length = 4) && l.all fun c => decide (65 ≤ c.toNat) && decide (c.toNat ≤ 90)
def inR (z m : Int) : Bool := decide (0 ≤ z) && decide (z ≤ m)
def validV (v : VD) : Bool := capL v.p.data.toList && (inR v.f 3 && !decide (v.f = 0)) && inR v.a 15 && inR v.b 15 && inR v.z 16777215
/-- One hexadecimal digit; so many of them. -/
def vhC (n : Nat) : UInt8 := if n < 10 then UInt8.ofNat (48 + n) else UInt8.ofNat (87 + n)
def vhL : Nat → Nat → List UInt8
 | 0, _ => []
 | k + 1, n => vhL k (n / 16) ++ [vhC (n % 16)]
theorem vhL_length : ∀ k n, (vhL k n).length = k
 | 0, _ => rfl
 | k + 1, n => by rw [vhL, List.length_append, vhL_length k]; rfl
/-- The name of a serialisation, and the serialisation of a name. -/
def formL (f : Int) : List UInt8 := if f = 1 then [74, 83, 79, 78] else if f = 2 then [67, 66, 79, 82] else if f = 3 then [77, 71, 80, 75] else []
def formN (l : List UInt8) : Int := if l = [74, 83, 79, 78] then 1 else if l = [67, 66, 79, 82] then 2 else if l = [77, 71, 80, 75] then 3 else 0
/-- The text of a version. -/
def textV (v : VD) : List UInt8 := v.p.data.toList ++ (vhL 1 v.a.toNat ++ (vhL 1 v.b.toNat ++ (formL v.f ++ (vhL 6 v.z.toNat ++ [95]))))
/-- What Text answers. -/
def vtS (v : VD) : ByteArray := if validV v then ⟨(textV v).toArray⟩ else ⟨#[]⟩
def vtE (v : VD) : Int := if validV v then 0 else 2
theorem validV_parts {v : VD} (h : validV v = true) : v.p.data.toList.length = 4 ∧ (v.f = 1 ∨ v.f = 2 ∨ v.f = 3) ∧ (0 ≤ v.a ∧ v.a ≤ 15) ∧ (0 ≤ v.b ∧ v.b ≤ 15) ∧ 0 ≤ v.z ∧ v.z ≤ 16777215 := by
 unfold validV capL inR at h
 simp only [Bool.and_eq_true, decide_eq_true_eq, Bool.not_eq_true', decide_eq_false_iff_not] at h
 obtain ⟨⟨⟨⟨⟨h1, h2⟩, h3⟩, h4⟩, h5⟩, h6⟩ := h
 exact ⟨h1, by omega, h4, h5, h6⟩
theorem parts17 {P A B F Z E : List UInt8} (hP : P.length = 4) (hA : A.length = 1) (hB : B.length = 1) (hF : F.length = 4) (hZ : Z.length = 6) (hE : E.length = 1) :
  (P ++ (A ++ (B ++ (F ++ (Z ++ E))))).length = 17 ∧ (P ++ (A ++ (B ++ (F ++ (Z ++ E))))).take 4 = P ∧ ((P ++ (A ++ (B ++ (F ++ (Z ++ E))))).drop 4).take 1 = A ∧ ((P ++ (A ++ (B ++ (F ++ (Z ++ E))))).drop 5).take 1 = B ∧ ((P ++ (A ++ (B ++ (F ++ (Z ++ E))))).drop 6).take 4 = F ∧ ((P ++ (A ++ (B ++ (F ++ (Z ++ E))))).drop 10).take 6 = Z ∧ (P ++ (A ++ (B ++ (F ++ (Z ++ E))))).drop 16 = E := by
 refine ⟨by simp only [List.length_append]; omega, ?_, ?_, ?_, ?_, ?_, ?_⟩ <;>
  simp [List.take_append, List.drop_append, hP, hA, hB, hF, hZ, hE, List.take_of_length_le, List.drop_eq_nil_of_le]
theorem formL_len {f : Int} (h : f = 1 ∨ f = 2 ∨ f = 3) : (formL f).length = 4 ∧ formN (formL f) = f := by rcases h with rfl | rfl | rfl <;> decide
theorem textV_length {v : VD} (h : validV v = true) : (textV v).length = 17 := by
 obtain ⟨h1, h2, h3, h4, h5⟩ := validV_parts h
 exact (parts17 h1 (vhL_length 1 _) (vhL_length 1 _) (formL_len h2).1 (vhL_length 6 _) rfl).1
end Go.Proofs.YtmlmdidaldcoiaaGreatDoor
/- The names of the serialisations: the map that the program makes, and the serialisation with a name. -/
namespace Go.Proofs.YtmlmdidaldcoiaaGreatDoor
open Go Go.Maps Go.ChangeShapes Go.WideShapes Go.ChangeAt Go.RowKit
set_option linter.unusedVariables false
set_option linter.unusedSimpArgs false

def fmD : DataW Unit := (((DataW.map []).put (.int .i64 1) (.lit (.string [74, 83, 79, 78]))).put (.int .i64 2) (.lit (.string [67, 66, 79, 82]))).put (.int .i64 3) (.lit (.string [77, 71, 80, 75]))
def isFm (f : Int) : Bool := inR f 3 && !decide (f = 0)
theorem isFm_cases (f : Int) : (isFm f = true ∧ (f = 1 ∨ f = 2 ∨ f = 3)) ∨ (isFm f = false ∧ f ≠ 1 ∧ f ≠ 2 ∧ f ≠ 3 ∧ formL f = []) := by
 unfold isFm inR
 by_cases h1 : f = 1
 ·subst h1; exact .inl ⟨rfl, by decide⟩
 by_cases h2 : f = 2
 ·subst h2; exact .inl ⟨rfl, by decide⟩
 by_cases h3 : f = 3
 ·subst h3; exact .inl ⟨rfl, by decide⟩
 refine .inr ⟨?_, h1, h2, h3, by unfold formL; rw [if_neg h1, if_neg h2, if_neg h3]⟩
 cases e : decide (f = 0)
 ·have := of_decide_eq_false e
  by_cases h0 : 0 ≤ f
  ·rw [decide_eq_true h0, decide_eq_false (by omega)]; rfl
  ·rw [decide_eq_false h0]; rfl
 ·rw [Bool.not_true, Bool.and_false]
theorem fm_look (f : Int) : Maps.has fmD (.int .i64 f) = isFm f ∧ ∀ z, fmD.atKey (.int .i64 f) z = if isFm f then .lit (.string (formL f)) else z := by
 have i0 : IsMap (.map [] : DataW Unit) := isMap_empty
 have i1 := i0.put (.int .i64 1) (.lit (.string [74, 83, 79, 78]))
 have i2 := i1.put (.int .i64 2) (.lit (.string [67, 66, 79, 82]))
 unfold fmD
 refine ⟨?_, fun z => ?_⟩
 ·rw [putZ_has i2, putZ_has i1, putZ_has i0, show Maps.has (.map [] : DataW Unit) (.int .i64 f) = false from rfl]
  rcases isFm_cases f with ⟨h, rfl | rfl | rfl⟩ | ⟨h, h1, h2, h3, -⟩
  ·rfl
  ·rfl
  ·rfl
  ·rw [h, decide_eq_false h1, decide_eq_false h2, decide_eq_false h3]; rfl
 ·rw [putZ_at i2, putZ_at i1, putZ_at i0, show (.map [] : DataW Unit).atKey (.int .i64 f) z = z from rfl]
  rcases isFm_cases f with ⟨h, rfl | rfl | rfl⟩ | ⟨h, h1, h2, h3, -⟩
  ·rfl
  ·rfl
  ·rfl
  ·rw [h, if_neg h1, if_neg h2, if_neg h3]; rfl
theorem lawI64 : Keyed Tryz.prog 3 := int_keyed Tryz.underlying3
theorem zeroStrV (w : World) : (zeroValue 9).run Tryz.prog w = .ok (.string ⟨#[]⟩) w := by kernel_rfl
/-- Block m is the map of the names. -/
def Fnames (w : World) (m : Nat) : Prop := w.ownsMap Tryz.prog 3 (plainElem (H := Unit) Tryz.prog 9) m 3 fmD
theorem Fnames.kept {w w' : World} {m : Nat} {row : Option Nat} (h : Fnames w m) (hg : w.grownBy w' row) (hne : some m ≠ row) : Fnames w' m := World.ownsMap.kept h hg hne
theorem Fnames.below {w w' : World} {m : Nat} (h : Fnames w m) (hb : Below w.heap.size w w') : Fnames w' m := h.kept (grown_of_below hb (Nat.le_refl _) none) (by simp)
theorem Fnames.lt {w : World} {m : Nat} (h : Fnames w m) : m < w.heap.size := World.ownsMap.lt h
theorem Fnames.look {w : World} {m : Nat} (h : Fnames w m) {f : Int} (hf : -9223372036854775808 ≤ f) (hf2 : f ≤ 9223372036854775807) : (∃ v ps, (Instr.lookup 67 (.map (some m)) (.int .i64 f) true).run Tryz.prog w = .ok (.tuple #[v, .bool (Maps.has fmD (.int .i64 f))]) w ∧ plainElem (H := Unit) Tryz.prog 9 v = some (fmD.atKey (.int .i64 f) (.lit (.string [])), ps)) := by
 have hwf : (Lit.int IntKind.i64 f).wf = true := by simp [Lit.wf, IntKind.min, IntKind.max, IntKind.signed, IntKind.bits]; omega
 exact World.ownsMap.look_ok h lawI64 Tryz.underlying67 (zeroStrV w) (plainElem_string Tryz.underlying9 (by decide)) (keyOf_int_mk Tryz.underlying3 hwf)
theorem fm_str {f : Int} {v : Value} {ps : List MemPlace} (hv : plainElem (H := Unit) Tryz.prog 9 v = some (fmD.atKey (.int .i64 f) (.lit (.string [])), ps)) : v = .string ⟨(formL f).toArray⟩ := by
 obtain ⟨s, rfl, e', _⟩ := plainElem_string_inv Tryz.underlying9 hv
 rw [(fm_look f).2] at e'
 have hs : s = ⟨(formL f).toArray⟩ := by
  rcases isFm_cases f with ⟨hq, -⟩ | ⟨hq, -, -, -, h0⟩
  ·rw [hq, if_pos rfl] at e'
   simp only [Prod.mk.injEq, DataW.lit.injEq, Lit.string.injEq] at e'
   exact ByteArray.ext (Array.toList_inj.1 e'.1.symm)
  ·rw [hq, if_neg (by decide)] at e'
   simp only [Prod.mk.injEq, DataW.lit.injEq, Lit.string.injEq] at e'
   rw [h0]
   exact ByteArray.ext (Array.toList_inj.1 e'.1.symm)
 rw [hs]
theorem Fnames.look2 {w : World} {m : Nat} (h : Fnames w m) {f : Int} (hf : -9223372036854775808 ≤ f) (hf2 : f ≤ 9223372036854775807) : (Instr.lookup 67 (.map (some m)) (.int .i64 f) true).run Tryz.prog w = .ok (.tuple #[.string ⟨(formL f).toArray⟩, .bool (isFm f)]) w := by
 obtain ⟨v, ps, hrun, hv⟩ := h.look hf hf2
 rw [hrun, fm_str hv, (fm_look f).1]
theorem Fnames.look1 {w : World} {m : Nat} (h : Fnames w m) {f : Int} (hf : -9223372036854775808 ≤ f) (hf2 : f ≤ 9223372036854775807) : (Instr.lookup 67 (.map (some m)) (.int .i64 f) false).run Tryz.prog w = .ok (.string ⟨(formL f).toArray⟩) w := by
 have hwf : (Lit.int IntKind.i64 f).wf = true := by simp [Lit.wf, IntKind.min, IntKind.max, IntKind.signed, IntKind.bits]; omega
 obtain ⟨v, ps, hrun, hv⟩ := World.ownsMap.lookup h lawI64 Tryz.underlying67 (zeroStrV w) (plainElem_string Tryz.underlying9 (by decide)) (keyOf_int_mk Tryz.underlying3 hwf)
 rw [hrun, fm_str hv]
set_option maxHeartbeats 1600000 in
set_option maxRecDepth 100000 in
theorem fnames_any (w : World) : Calls Tryz.prog 37 #[] w fun e w' => e = .returned (.map (some w.heap.size)) ∧ Fnames w' w.heap.size ∧ Below w.heap.size w w' := by
 have hmm := @run_makeMap Tryz.prog
 have h0 := World.ownsMap_made (H := Unit) w Tryz.prog 3 (plainElem (H := Unit) Tryz.prog 9)
 have b0 := (Below.refl w.heap.size w).alloc (o := .map #[] 0) (Nat.le_refl _)
 have H0 := Lib.hid h0
 have B0 := Lib.hid b0
 clear h0 b0
 go_enter Tryz.func37, Tryz.ntmps37
 go_wp2_with (first
  | (refine wpList_insert_own _ rfl _ _ _ 67 rfl 3 9 lawI64 Tryz.underlying67 _ w.heap.size 2 _ rfl h2 (by unfold maxLen; omega) _ _ _ rfl rfl (keyOf_int_mk Tryz.underlying3 (a := 3) (by decide)) _ [] (plainElem_string Tryz.underlying9 (s := ⟨#[77, 71, 80, 75]⟩) (by decide)) ?_; intro w3 h3 g3; (have b3 := gbelow b2 g3 (b2.size) (Nat.le_refl _)))
  | (refine wpList_insert_own _ rfl _ _ _ 67 rfl 3 9 lawI64 Tryz.underlying67 _ w.heap.size 1 _ rfl h1 (by unfold maxLen; omega) _ _ _ rfl rfl (keyOf_int_mk Tryz.underlying3 (a := 2) (by decide)) _ [] (plainElem_string Tryz.underlying9 (s := ⟨#[67, 66, 79, 82]⟩) (by decide)) ?_; intro w2 h2 g2; (have b2 := gbelow b1 g2 (b1.size) (Nat.le_refl _)))
  | (refine wpList_insert_own _ rfl _ _ _ 67 rfl 3 9 lawI64 Tryz.underlying67 _ w.heap.size 0 _ rfl H0.out (by unfold maxLen; omega) _ _ _ rfl rfl (keyOf_int_mk Tryz.underlying3 (a := 1) (by decide)) _ [] (plainElem_string Tryz.underlying9 (s := ⟨#[74, 83, 79, 78]⟩) (by decide)) ?_; intro w1 h1 g1; (have b1 := gbelow B0.out g1 (B0.out.size) (Nat.le_refl _))))
 go_ret
 exact ⟨rfl, h3, b3⟩
end Go.Proofs.YtmlmdidaldcoiaaGreatDoor
