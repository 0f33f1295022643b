/- The document's reader of the second serialisation: read, text. -/
import Derived.Test.YtdppdonaojdceaaGreatDoorMpf
import Derived.Test.YtdppdonaojdceaaGreatDoorNvw
import Derived.BigQuiet
import Derived.Deep.QuietTactic
import Derived.Laws.BitsAllLaws
import Derived.Lib.EndianBits
import Derived.Deep.DeepCutAuto
import Derived.Deep.CutRange
namespace Go.Proofs.YtdppdonaojdceaaGreatDoor
open Go Go.ChangeShapes Go.WideShapes Go.ChangeAt Go.RowKit
set_option linter.unusedVariables false
set_option linter.unusedSimpArgs false

theorem cdrop_at {l : List UInt8} {p : Nat} {c : UInt8} (h : l[p]? = some c) : l.drop p = c :: l.drop (p + 1) := by
 have hp : p < l.length := lt_of_some h
 rw [List.drop_eq_getElem_cons hp]
 rw [List.getElem?_eq_getElem hp] at h
 rw [Option.some.inj h]
theorem or_low (N c : Nat) (hN : N * 256 < 18446744073709551616) (hc : c < 256) : bits BinOp.or IntKind.u64 ((N : Int) * 256) (c : Int) = ((N * 256 + c : Nat) : Int) := by
 have e : ((N : Int) * 256) = ((N * 256 : Nat) : Int) := by omega
 rw [e, u64_or_nat _ _ hN (by omega), Nat.or_comm, ← u64_or_nat _ _ (by omega) hN]
 have h := u64_or8 (y := (c : Int)) (x := ((N * 256 : Nat) : Int)) (by omega) (by omega) (by omega) (by omega) (by omega)
 rw [show bits BinOp.or IntKind.u64 (c : Int) ((N * 256 : Nat) : Int) = _ from h]
 omega
theorem bigV_snoc (l : List UInt8) (c : UInt8) : bigV (l ++ [c]) = bigV l * 256 + c.toNat := by unfold bigV; rw [List.foldl_append]; rfl
theorem bigV_lt : ∀ l : List UInt8, bigV l < 256 ^ l.length
 | [] => by simp [bigV]
 | c :: t => by
  have h1 := bigV_lt t
  have h2 := c.toNat_lt
  rw [bigV_cons, List.length_cons, Nat.pow_succ]
  have h3 : c.toNat * 256 ^ t.length ≤ 255 * 256 ^ t.length := Nat.mul_le_mul_right _ (by omega)
  omega
theorem headV_cases {N : Nat} (h : N < 18446744073709551616) : (headV N < 24 ∧ headK N = 0 ∧ N = headV N) ∨ (24 ≤ headV N ∧ headV N ≤ 27 ∧ headK N = 2 ^ (headV N - 24) ∧ N < 256 ^ headK N) := by
 unfold headV headK
 (repeat' split) <;> first
  | (left; omega)
  | (right; refine ⟨by decide, by decide, by decide, ?_⟩; simp only [Nat.reducePow]; omega)
theorem head_first {l : List UInt8} {p : Nat} {c : UInt8} (hc : l[p]? = some c) {M N : Nat} {t : List UInt8} (hM : M < 8) (h : l.drop p = headL M N ++ t) : c.toNat / 32 = M ∧ c.toNat % 32 = headV N ∧ l.drop (p + 1) = bigL N (headK N) ++ t := by
 rw [cdrop_at hc] at h
 unfold headL at h
 rw [List.cons_append] at h
 obtain ⟨h1, h2⟩ := List.cons.inj h
 have h3 := congrArg UInt8.toNat h1
 rw [UInt8.toNat_ofNat'] at h3
 have := headV_lt N
 exact ⟨by omega, by omega, h2⟩
end Go.Proofs.YtdppdonaojdceaaGreatDoor
/- The document's reader of the second serialisation: texts. Then: The second serialisation as data: what is read of a node, head, names, items. No program. -/
namespace Go.Proofs.YtdppdonaojdceaaGreatDoor
open Go Go.ChangeShapes Go.WideShapes Go.ChangeAt Go.RowKit
set_option linter.unusedVariables false
set_option linter.unusedSimpArgs false

end Go.Proofs.YtdppdonaojdceaaGreatDoor

namespace Go.Proofs.YtdppdonaojdceaaGreatDoor
set_option linter.unusedVariables false
set_option linter.unusedSimpArgs false

theorem cmaj_cases {d : Nat} {y : ND} (h : validN (d + 1) y = true) (hn : numsB (d + 1) y = true) :
  (cMaj y = 7 ∧ 20 ≤ cCnt y ∧ cCnt y ≤ 22) ∨ (cMaj y = 0 ∧ cCnt y ≤ 9223372036854775807 ∧ y = .mk 2 false (cCnt y : Int) ⟨#[]⟩ [] []) ∨ (cMaj y = 1 ∧ cCnt y ≤ 9223372036854775807 ∧ y = .mk 2 false (-1 - (cCnt y : Int)) ⟨#[]⟩ [] []) ∨ (cMaj y = 3 ∧ y.text.size ≤ 65536 ∧ y = .mk 3 false 0 y.text [] [] ∧ writeC (d + 1) y = cText y.text) ∨ (cMaj y = 4 ∧ cCnt y = y.items.length ∧ y.items.length ≤ 256 ∧ y = .mk 4 false 0 ⟨#[]⟩ [] y.items) ∨ (cMaj y = 5 ∧ cCnt y = y.items.length ∧ y.items.length ≤ 256 ∧ y = .mk 5 false 0 ⟨#[]⟩ y.names y.items ∧ y.names.length = y.items.length) := by
 obtain ⟨-, hl, htx, -⟩ := validN_parts h
 obtain ⟨hw, -⟩ := numsB_parts hn
 have h6 := textOk_le htx
 have hk := kinds h
 unfold wideI at hw
 rw [Bool.and_eq_true, decide_eq_true_eq, decide_eq_true_eq] at hw
 obtain ⟨k, b, n, tt, ns, its⟩ := y
 unfold nd0 at hk
 simp only [ND.mk.injEq, ND.kind, ND.bool, ND.num, ND.text, ND.names, ND.items] at *
 rcases hk with ⟨rfl, rfl, rfl, rfl, rfl, rfl⟩ | ⟨rfl, -, rfl, rfl, rfl, rfl⟩ | ⟨rfl, rfl, -, rfl, rfl, rfl⟩ | ⟨rfl, rfl, rfl, -, rfl, rfl⟩ | ⟨rfl, rfl, rfl, rfl, rfl, -⟩ | ⟨⟨rfl, rfl, rfl, rfl, -, -⟩, hlx⟩
 ·left; simp [cMaj, cCnt, ND.kind]
 ·left; cases b <;> simp [cMaj, cCnt, ND.kind, ND.bool]
 ·right
  by_cases hq : n < 0
  ·right; left; simp [cMaj, cCnt, ND.kind, ND.num, hq]; omega
  ·left; simp [cMaj, cCnt, ND.kind, ND.num, hq]; omega
 ·right; right; right; left
  refine ⟨rfl, h6, by simp, ?_⟩
  rw [writeC_succ]; simp [bodyC, cMaj, cCnt, cText, ND.kind, ND.text]
 ·right; right; right; right; left; exact ⟨rfl, rfl, hl, by simp⟩
 ·right; right; right; right; right; exact ⟨rfl, rfl, hl, by simp, hlx⟩
/-- What follows the head of a list or a map. -/
def restC (d : Nat) (k : Int) (ns : List ByteArray) (its : List ND) : List UInt8 := if k = 5 then (List.zipWith (fun s y => cText s ++ writeC d y) ns its).flatten else its.flatMap (writeC d)
end Go.Proofs.YtdppdonaojdceaaGreatDoor
/- The document's reader of the third serialisation: fixed, length. Then: The third serialisation as data: what is read of a node, head, names, items. No program. -/
namespace Go.Proofs.YtdppdonaojdceaaGreatDoor
open Go Go.ChangeShapes Go.WideShapes Go.ChangeAt Go.RowKit
set_option linter.unusedVariables false
set_option linter.unusedSimpArgs false

/-- First bytes of texts, lists and maps. -/
def LnOk (v : Nat) : Prop := (128 ≤ v ∧ v < 192) ∨ v = 217 ∨ v = 218 ∨ v = 219 ∨ v = 220 ∨ v = 222
instance (v : Nat) : Decidable (LnOk v) := by unfold LnOk; infer_instance
theorem bigV_take (l : List UInt8) (k : Nat) (hk : k ≤ 4) : bigV (l.take k) < 4294967296 := by
 have h1 := bigV_lt (l.take k)
 have h2 : (l.take k).length ≤ 4 := by rw [List.length_take]; omega
 have h3 : (256 : Nat) ^ (l.take k).length ≤ 256 ^ 4 := Nat.pow_le_pow_right (by decide) h2
 have h4 : (256 : Nat) ^ 4 = 4294967296 := by decide
 omega
end Go.Proofs.YtdppdonaojdceaaGreatDoor

namespace Go.Proofs.YtdppdonaojdceaaGreatDoor
set_option linter.unusedVariables false
set_option linter.unusedSimpArgs false

/-- From p on stands the node y, then t. -/
def MIs (d : Nat) (l : List UInt8) (p : Nat) (y : ND) (t : List UInt8) : Prop := validN d y = true ∧ numsB d y = true ∧ l.drop p = writeP d y ++ t
/-- The bytes behind a first byte, as a number. -/
def mBig (l : List UInt8) (p v : Nat) : Nat := bigV ((l.drop (p + 1)).take (pWid v))
/-- What a head tells of what stands there. -/
theorem mhead {d : Nat} {l : List UInt8} {p : Nat} {c : UInt8} (hc : l[p]? = some c) {y : ND} {t : List UInt8} (h : MIs (d + 1) l p y t) : c.toNat = (pHd y).1 ∧ pCls c.toNat = y.kind ∧ p + 1 + pWid c.toNat ≤ l.length ∧ pDec c.toNat (mBig l p c.toNat) = pPay y ∧ mBig l p c.toNat = pVal y % 256 ^ pWid c.toNat ∧ bodyM (writeP d) y ++ t = l.drop (p + 1 + pWid c.toNat) := by
 obtain ⟨h1, h2, h3⟩ := h
 obtain ⟨a1, a2, a3, a4⟩ := head_ok h1 h2
 rw [writeP_succ, List.append_assoc, cdrop_at hc] at h3
 unfold headP at h3
 rw [List.cons_append] at h3
 obtain ⟨h4, h5⟩ := List.cons.inj h3
 have h4 := congrArg UInt8.toNat h4
 rw [UInt8.toNat_ofNat'] at h4
 have hv : c.toNat = (pHd y).1 := by omega
 have hp := lt_of_some hc
 have hl := congrArg List.length h5
 rw [List.length_drop, List.length_append, bigL_length] at hl
 have hb : (bigL (pVal y) (pHd y).2).length = (pHd y).2 := bigL_length _ _
 have hm : mBig l p c.toNat = pVal y % 256 ^ (pHd y).2 := by
  unfold mBig
  rw [hv, a3, h5, List.take_left' hb, bigV_bigL]
 refine ⟨hv, by rw [hv, a2], by rw [hv, a3]; omega, by rw [hm, hv, a4], by rw [hm, hv, a3], ?_⟩
 rw [hv, a3, ← List.drop_drop, h5, List.drop_left' hb]
theorem mcases {d : Nat} {y : ND} (h : validN (d + 1) y = true) (hn : numsB (d + 1) y = true) :
  (y.kind = 0 ∧ y = .mk 0 false 0 ⟨#[]⟩ [] []) ∨ (y.kind = 1 ∧ y = .mk 1 (decide (pPay y = 1)) 0 ⟨#[]⟩ [] []) ∨ (y.kind = 2 ∧ wideI y.num = true ∧ pPay y = y.num ∧ y = .mk 2 false y.num ⟨#[]⟩ [] []) ∨ (y.kind = 3 ∧ y.text.size ≤ 65536 ∧ pPay y = y.text.size ∧ y = .mk 3 false 0 y.text [] []) ∨ (y.kind = 4 ∧ pPay y = y.items.length ∧ y.items.length ≤ 256 ∧ y = .mk 4 false 0 ⟨#[]⟩ [] y.items) ∨ (y.kind = 5 ∧ pPay y = y.items.length ∧ y.items.length ≤ 256 ∧ y = .mk 5 false 0 ⟨#[]⟩ y.names y.items ∧ y.names.length = y.items.length) := by
 obtain ⟨-, hl, htx, -⟩ := validN_parts h
 obtain ⟨hw, -⟩ := numsB_parts hn
 have h6 := textOk_le htx
 have hk := kinds h
 obtain ⟨k, b, n, tt, ns, its⟩ := y
 unfold nd0 at hk
 simp only [ND.mk.injEq, ND.kind, ND.bool, ND.num, ND.text, ND.names, ND.items] at *
 rcases hk with ⟨rfl, rfl, rfl, rfl, rfl, rfl⟩ | ⟨rfl, -, rfl, rfl, rfl, rfl⟩ | ⟨rfl, rfl, -, rfl, rfl, rfl⟩ | ⟨rfl, rfl, rfl, -, rfl, rfl⟩ | ⟨rfl, rfl, rfl, rfl, rfl, -⟩ | ⟨⟨rfl, rfl, rfl, rfl, -, -⟩, hlx⟩
 ·left; simp
 ·right; left; cases b <;> simp [pPay, ND.kind, ND.bool]
 ·right; right; left; simp [pPay, ND.kind, ND.num, hw]
 ·right; right; right; left; simp [pPay, ND.kind, ND.text, h6]
 ·right; right; right; right; left; simp [pPay, ND.kind, ND.items, hl]
 ·right; right; right; right; right; simp [pPay, ND.kind, ND.items, hl, hlx]
/-- What follows the head of a list or a map. -/
def restM (d : Nat) (k : Int) (ns : List ByteArray) (its : List ND) : List UInt8 := if k = 5 then (List.zipWith (fun s y => pText s ++ writeP d y) ns its).flatten else its.flatMap (writeP d)
/-- The first bytes of valid nodes. -/
theorem mfirst {d : Nat} {l : List UInt8} {p : Nat} {c : UInt8} (hc : l[p]? = some c) (hn : ¬ (c.toNat < 128 ∨ 224 ≤ c.toNat ∨ c.toNat = 192 ∨ c.toNat = 194 ∨ c.toNat = 195 ∨ (204 ≤ c.toNat ∧ c.toNat ≤ 211) ∨ LnOk c.toNat)) : ∀ y t, ¬ MIs (d + 1) l p y t := by
 intro y t h
 obtain ⟨h0, -⟩ := mhead hc h
 obtain ⟨-, hl, -, -⟩ := validN_parts h.1
 apply hn
 unfold LnOk
 rcases mcases h.1 h.2.1 with ⟨c1, -⟩ | ⟨c1, -⟩ | ⟨c1, -⟩ | ⟨c1, c2, -⟩ | ⟨c1, -, c2, -⟩ | ⟨c1, -, c2, -⟩
 ·have e : (pHd y).1 = 192 := by unfold pHd; rw [c1]; rfl
  omega
 ·have e : (pHd y).1 = 195 ∨ (pHd y).1 = 194 := by unfold pHd; rw [c1]; cases y.bool <;> simp
  omega
 ·have e : (pHd y).1 = (numH y.num).1 := by unfold pHd; rw [c1]; rfl
  rw [e] at h0
  rw [h0]
  unfold numH
  (repeat' split) <;> dsimp only <;> (try unfold u64N) <;> omega
 ·have e : (pHd y).1 = (txtH y.text.size).1 := by unfold pHd; rw [c1]; rfl
  rw [e] at h0
  rw [h0]
  unfold txtH
  (repeat' split) <;> dsimp only <;> omega
 ·have e : (pHd y).1 = (lstH y.items.length).1 := by unfold pHd; rw [c1]; rfl
  rw [e] at h0
  rw [h0]
  unfold lstH
  (repeat' split) <;> dsimp only <;> omega
 ·have e : (pHd y).1 = (mapH y.items.length).1 := by unfold pHd; rw [c1]; rfl
  rw [e] at h0
  rw [h0]
  unfold mapH
  (repeat' split) <;> dsimp only <;> omega
end Go.Proofs.YtdppdonaojdceaaGreatDoor
/- What the program's parser of the third serialisation reads, by what is left: heads, names, items. No program. -/
namespace Go.Proofs.YtdppdonaojdceaaGreatDoor
set_option linter.unusedVariables false
set_option linter.unusedSimpArgs false

/-- On r stands the node y, then t. -/
def MIr (d : Nat) (r : List UInt8) (y : ND) (t : List UInt8) : Prop := validN d y = true ∧ numsB d y = true ∧ r = writeP d y ++ t
/-- What a head's reader tells. -/
def MHd (r : List UInt8) (ok : Bool) (k z : Int) (r1 : List UInt8) : Prop := ∀ d y t, validN (d + 1) y = true → numsB (d + 1) y = true → r = headP (pHd y) (pVal y) ++ t → ok = true ∧ k = y.kind ∧ z = pPay y ∧ r1 = t
theorem mrhead {d : Nat} {r r1 : List UInt8} {ok : Bool} {k z : Int} (hat : MHd r ok k z r1) {y : ND} {t : List UInt8} (h : MIr (d + 1) r y t) : ok = true ∧ k = y.kind ∧ z = pPay y ∧ r1 = bodyM (writeP d) y ++ t := by
 obtain ⟨h1, h2, h3⟩ := h
 rw [writeP_succ, List.append_assoc] at h3
 exact hat d y _ h1 h2 h3
theorem mname_at {z : ByteArray} (d : Nat) (h : textOk z = true) : validN (d + 1) (.mk 3 false 0 z [] []) = true ∧ numsB (d + 1) (.mk 3 false 0 z [] []) = true ∧ writeP (d + 1) (.mk 3 false 0 z [] []) = pText z := by
 refine ⟨?_, ?_, ?_⟩
 ·rw [validN_succ]
  unfold flatOk
  simp [ND.kind, ND.bool, ND.num, ND.text, ND.names, ND.items, h]
 ·rw [numsB_succ]; rfl
 ·rfl
/-- Names and items so far, before a name. -/
def MLr (d : Nat) (k : Int) (n : Nat) (r : List UInt8) (ns : List ByteArray) (X : List ND) (rr : List UInt8) : Prop := ∀ y t, MIr (d + 1) r y t → y = .mk k false 0 ⟨#[]⟩ y.names y.items ∧ y.items.length = n ∧ ∃ its nms, y.items = X ++ its ∧ y.names = ns ++ nms ∧ (k = 5 → nms.length = its.length) ∧ (k ≠ 5 → nms = []) ∧ (∀ z, z ∈ its → validN d z = true ∧ numsB d z = true) ∧ (∀ z, z ∈ nms → textOk z = true) ∧ rr = restM d k nms its ++ t
/-- Names and items so far, before an item. -/
def MVr (d : Nat) (k : Int) (n : Nat) (r : List UInt8) (ns : List ByteArray) (X : List ND) (rr : List UInt8) : Prop := ∀ y t, MIr (d + 1) r y t → y = .mk k false 0 ⟨#[]⟩ y.names y.items ∧ y.items.length = n ∧ ∃ i its nms, y.items = X ++ i :: its ∧ y.names = ns ++ nms ∧ (k = 5 → nms.length = its.length) ∧ (k ≠ 5 → nms = []) ∧ (∀ z, z ∈ i :: its → validN d z = true ∧ numsB d z = true) ∧ (∀ z, z ∈ nms → textOk z = true) ∧ rr = writeP d i ++ (restM d k nms its ++ t)
theorem MLr.start {d : Nat} {r r1 : List UInt8} {ok : Bool} {k : Int} {n : Nat} (hat : MHd r ok k (n : Int) r1) (hk : k = 4 ∨ k = 5) : MLr d k n r [] [] r1 := by
 intro y t h
 obtain ⟨-, h1, h2, h4⟩ := mrhead hat h
 obtain ⟨hi, -, -, hns⟩ := validN_parts h.1
 obtain ⟨-, hni⟩ := numsB_parts h.2.1
 rw [h1] at hk ⊢
 rcases mcases h.1 h.2.1 with ⟨c1, -⟩ | ⟨c1, -⟩ | ⟨c1, -⟩ | ⟨c1, -⟩ | ⟨c1, c2, c3, c4⟩ | ⟨c1, c2, c3, c4, c5⟩
 ·omega
 ·omega
 ·omega
 ·omega
 ·have hnn : y.names = [] := by rw [c4]; rfl
  rw [c1]
  refine ⟨by rw [hnn]; exact c4, by omega, y.items, [], rfl, hnn, fun h => by omega, fun _ => rfl, fun z hz => ⟨hi z hz, hni z hz⟩, fun z hz => by simp at hz, ?_⟩
  rw [h4]
  unfold bodyM restM
  rw [c1]; rfl
 ·rw [c1]
  refine ⟨c4, by omega, y.items, y.names, rfl, rfl, fun _ => c5, fun h => absurd rfl h, fun z hz => ⟨hi z hz, hni z hz⟩, fun z hz => hns z hz, ?_⟩
  rw [h4]
  unfold bodyM restM
  rw [c1]; rfl
theorem MLr.more {d : Nat} {k : Int} {n : Nat} {r rr : List UInt8} {ns : List ByteArray} {X : List ND} (h : MLr d k n r ns X rr) (hk : k ≠ 5) (hX : X.length < n) : MVr d k n r ns X rr := by
 intro y t hy
 obtain ⟨h1, h2, its, nms, h3, h4, h5, h6, h7, h8, h9⟩ := h y t hy
 cases its with
 | nil => rw [h3, List.append_nil] at h2; omega
 | cons i its =>
  refine ⟨h1, h2, i, its, nms, h3, h4, fun h => absurd h hk, h6, h7, h8, ?_⟩
  rw [h9]
  unfold restM
  rw [if_neg hk, if_neg hk, List.flatMap_cons, List.append_assoc]
theorem MLr.text {d : Nat} {k : Int} {n : Nat} {r rr r' : List UInt8} {ok : Bool} {ns : List ByteArray} {X : List ND} (h : MLr d k n r ns X rr) (hk : k = 5) (hX : X.length < n) {x : ND} (ht : ∀ z t, MIr d rr z t → ok = true ∧ x = z ∧ r' = t) : (ok = false → ∀ y t, ¬ MIr (d + 1) r y t) ∧ MVr d k n r (ns ++ [x.text]) X r' := by
 have main : ∀ y t, MIr (d + 1) r y t → ok = true ∧ (y = .mk k false 0 ⟨#[]⟩ y.names y.items ∧ y.items.length = n ∧ ∃ i its nms, y.items = X ++ i :: its ∧ y.names = ns ++ [x.text] ++ nms ∧ (k = 5 → nms.length = its.length) ∧ (k ≠ 5 → nms = []) ∧ (∀ z, z ∈ i :: its → validN d z = true ∧ numsB d z = true) ∧ (∀ z, z ∈ nms → textOk z = true) ∧ r' = writeP d i ++ (restM d k nms its ++ t)) := by
  intro y t hy
  obtain ⟨h1, h2, its, nms, h3, h4, h5, h6, h7, h8, h9⟩ := h y t hy
  cases its with
  | nil => rw [h3, List.append_nil] at h2; omega
  | cons i its =>
   cases nms with
   | nil => have := h5 hk; simp at this
   | cons m nms =>
    unfold restM at h9
    rw [if_pos hk, List.zipWith_cons_cons, List.flatten_cons, List.append_assoc, List.append_assoc] at h9
    obtain ⟨e, rfl⟩ : ∃ e, d = e + 1 := by
     cases d with
     | zero => have := (h7 i (by simp)).1; cases this
     | succ e => exact ⟨e, rfl⟩
    obtain ⟨o1, o2, o3⟩ := mname_at e (h8 m (by simp))
    obtain ⟨e1, e2, e3⟩ := ht _ _ ⟨o1, o2, by rw [o3]; exact h9⟩
    subst e2
    refine ⟨e1, h1, h2, i, its, nms, h3, by rw [h4]; simp [ND.text], fun h => by have := h5 h; simpa using this, fun h => absurd hk h, h7, fun z hz => h8 z (by simp [hz]), ?_⟩
    rw [e3]
    unfold restM
    rw [if_pos hk]
 exact ⟨(fun hq y t hy => by have := (main y t hy).1; rw [hq] at this; cases this), fun y t hy => (main y t hy).2⟩
theorem MVr.item {d : Nat} {k : Int} {n : Nat} {r rr r' : List UInt8} {ok : Bool} {ns : List ByteArray} {X : List ND} (h : MVr d k n r ns X rr) {x : ND} (ht : ∀ z t, MIr d rr z t → ok = true ∧ x = z ∧ r' = t) : (ok = false → ∀ y t, ¬ MIr (d + 1) r y t) ∧ MLr d k n r ns (X ++ [x]) r' := by
 have main : ∀ y t, MIr (d + 1) r y t → ok = true ∧ (y = .mk k false 0 ⟨#[]⟩ y.names y.items ∧ y.items.length = n ∧ ∃ its nms, y.items = X ++ [x] ++ its ∧ y.names = ns ++ nms ∧ (k = 5 → nms.length = its.length) ∧ (k ≠ 5 → nms = []) ∧ (∀ z, z ∈ its → validN d z = true ∧ numsB d z = true) ∧ (∀ z, z ∈ nms → textOk z = true) ∧ r' = restM d k nms its ++ t) := by
  intro y t hy
  obtain ⟨h1, h2, i, its, nms, h3, h4, h5, h6, h7, h8, h9⟩ := h y t hy
  have hi := h7 i (by simp)
  obtain ⟨e1, e2, e3⟩ := ht i _ ⟨hi.1, hi.2, h9⟩
  subst e2
  exact ⟨e1, h1, h2, its, nms, by rw [h3]; simp, h4, h5, h6, fun z hz => h7 z (by simp [hz]), h8, e3⟩
 exact ⟨(fun hq y t hy => by have := (main y t hy).1; rw [hq] at this; cases this), fun y t hy => (main y t hy).2⟩
theorem MLr.done {d : Nat} {k : Int} {n : Nat} {r rr : List UInt8} {ns : List ByteArray} {X : List ND} (h : MLr d k n r ns X rr) (hX : X.length = n) : ∀ y t, MIr (d + 1) r y t → (.mk k false 0 ⟨#[]⟩ ns X) = y ∧ rr = t := by
 intro y t hy
 obtain ⟨h1, h2, its, nms, h3, h4, h5, h6, h7, h8, h9⟩ := h y t hy
 have hn : its = [] := by
  rw [h3, List.length_append] at h2
  exact List.length_eq_zero_iff.1 (by omega)
 subst hn
 have hm : nms = [] := by
  by_cases hk : k = 5
  ·exact List.length_eq_zero_iff.1 (h5 hk)
  ·exact h6 hk
 subst hm
 rw [List.append_nil] at h3 h4
 refine ⟨by rw [h1, h3, h4], ?_⟩
 rw [h9]
 unfold restM
 split <;> rfl
end Go.Proofs.YtdppdonaojdceaaGreatDoor
