/- The tree of a key by places, as data: the place 1 is the top, below the place p are 2p and 2p + 1. -/
import Derived.Test.YtpophimnoakinaaDoorKrs
import Derived.Test.YtpophimnoakinaaDoorPmath
namespace Go.Proofs.YtpophimnoakinaaDoor
open Go
set_option linter.unusedVariables false
set_option linter.unusedSimpArgs false

/-- The node of a place. -/
def plB (seed : ByteArray) (p : Nat) : ByteArray := if 8 ≤ p then lvB seed 0 (p - 8) else if 4 ≤ p then lvB seed 1 (p - 4) else if 2 ≤ p then lvB seed 2 (p - 2) else lvB seed 3 0
theorem plB_size (seed : ByteArray) (p : Nat) : (plB seed p).size = 16 := by
  unfold plB
  split
  · exact lvB_size _ _ _
  split
  · exact lvB_size _ _ _
  split
  · exact lvB_size _ _ _
  · exact lvB_size _ _ _
theorem plB_lv (seed : ByteArray) (k i p : Nat) (hk : k ≤ 3) (hi : i < 8 / 2 ^ k) (hp : p = 8 / 2 ^ k + i) : plB seed p = lvB seed k i := by
  unfold plB
  rcases (by omega : k = 0 ∨ k = 1 ∨ k = 2 ∨ k = 3) with rfl | rfl | rfl | rfl
  · rw [show 8 / 2 ^ 0 = 8 from rfl] at hi hp
    rw [if_pos (by omega), show p - 8 = i by omega]
  · rw [show 8 / 2 ^ 1 = 4 from rfl] at hi hp
    rw [if_neg (by omega), if_pos (by omega), show p - 4 = i by omega]
  · rw [show 8 / 2 ^ 2 = 2 from rfl] at hi hp
    rw [if_neg (by omega), if_neg (by omega), if_pos (by omega), show p - 2 = i by omega]
  · rw [show 8 / 2 ^ 3 = 1 from rfl] at hi hp
    rw [if_neg (by omega), if_neg (by omega), if_neg (by omega), show i = 0 by omega]
theorem plB_up (seed : ByteArray) (k i p : Nat) (hk : k < 3) (hi : i < 8 / 2 ^ (k + 1)) (hp : p = 8 / 2 ^ (k + 1) + i) : nodB (plB seed (2 * p)) (plB seed (2 * p + 1)) = plB seed p := by
  have h2 : 8 / 2 ^ k = 2 * (8 / 2 ^ (k + 1)) := by
    rcases (by omega : k = 0 ∨ k = 1 ∨ k = 2) with rfl | rfl | rfl <;> rfl
  rw [plB_lv seed (k + 1) i p (by omega) hi hp, plB_lv seed k (2 * i) (2 * p) (by omega) (by omega) (by omega), plB_lv seed k (2 * i + 1) (2 * p + 1) (by omega) (by omega) (by omega)]
  rfl
theorem plB_node (seed : ByteArray) (p : Nat) (h1 : 1 ≤ p) (h8 : p < 8) : nodB (plB seed (2 * p)) (plB seed (2 * p + 1)) = plB seed p := by
  rcases (by omega : p = 1 ∨ (2 ≤ p ∧ p < 4) ∨ 4 ≤ p) with h | h | h
  · exact plB_up seed 2 0 p (by decide) (by decide) (by rw [h])
  · exact plB_up seed 1 (p - 2) p (by decide) (by show p - 2 < 2; omega) (by show p = 2 + (p - 2); omega)
  · exact plB_up seed 0 (p - 4) p (by decide) (by show p - 4 < 4; omega) (by show p = 4 + (p - 4); omega)
theorem plB_top (seed : ByteArray) : plB seed 1 = lvB seed 3 0 := plB_lv seed 3 0 1 (by decide) (by decide) rfl
theorem plB_leaf (seed : ByteArray) (j : Nat) : plB seed (8 + j) = leafB seed (j : Nat) := by
  unfold plB
  rw [if_pos (by omega), show 8 + j - 8 = j by omega]
  exact rfl
theorem plB_bes (seed : ByteArray) (u k : Nat) (hu : u < 8) (hk : k < 3) : plB seed (8 / 2 ^ k + besN u k) = besB seed u k := by
  have hb : besN u k < 8 / 2 ^ k := by
    have : ∀ u : Fin 8, ∀ k : Fin 3, besN u.1 k.1 < 8 / 2 ^ k.1 := by decide
    exact this ⟨u, hu⟩ ⟨k, hk⟩
  exact plB_lv seed k (besN u k) _ (by omega) hb rfl
/-- The tree's cells: the places from lo on, below hi. -/
def grS (seed : ByteArray) (lo hi : Nat) : List Value := (List.range 16).map fun p => .string (if lo ≤ p ∧ p < hi then plB seed p else ByteArray.empty)
theorem grS_length (seed : ByteArray) (lo hi : Nat) : (grS seed lo hi).length = 16 := by simp [grS]
theorem grS_get (seed : ByteArray) (lo hi p : Nat) (h1 : lo ≤ p) (h2 : p < hi) (h : p < 16) : (grS seed lo hi)[p]? = some (.string (plB seed p)) := by
  simp [grS, h, h1, h2]
theorem grS_ext {seed : ByteArray} {lo hi lo' hi' q : Nat} (hq : q < 16) (h : ∀ p, p < 16 → p ≠ q → ((lo ≤ p ∧ p < hi) ↔ (lo' ≤ p ∧ p < hi'))) (hq' : lo' ≤ q ∧ q < hi') : (grS seed lo hi).set q (.string (plB seed q)) = grS seed lo' hi' := by
  apply List.ext_getElem?
  intro p
  rw [List.getElem?_set, grS_length]
  by_cases e : q = p
  · subst e
    rw [if_pos rfl, if_pos hq, grS_get seed lo' hi' q hq'.1 hq'.2 hq]
  · rw [if_neg e]
    by_cases hp : p < 16
    · unfold grS
      rw [List.getElem?_map, List.getElem?_map, List.getElem?_range hp]
      simp only [Option.map_some, h p hp (Ne.symm e)]
    · rw [List.getElem?_eq_none (by rw [grS_length]; omega), List.getElem?_eq_none (by rw [grS_length]; omega)]
theorem grS_hi (seed : ByteArray) (j : Nat) (hj : j < 8) : (grS seed 8 (8 + j)).set (8 + j) (.string (plB seed (8 + j))) = grS seed 8 (8 + (j + 1)) :=
  grS_ext (by omega) (fun p _ _ => by omega) (by omega)
theorem grS_lo (seed : ByteArray) (i : Nat) (hi : i < 7) : (grS seed (8 - i) 16).set (7 - i) (.string (plB seed (7 - i))) = grS seed (8 - (i + 1)) 16 :=
  grS_ext (by omega) (fun p _ _ => by omega) (by omega)
theorem grS_zero (seed : ByteArray) : grS seed 8 8 = List.replicate 16 (.string ⟨#[]⟩) := by rfl

/-- What the first nodes lead to. -/
def clP (u : Nat) (m raw : ByteArray) : Nat → ByteArray
  | 0 => lfB (recB m (raw.extract 1 577))
  | k + 1 => upB u k (clP u m raw k) (raw.extract (577 + 16 * k) (593 + 16 * k))
theorem clP_three (u : Nat) (m raw : ByteArray) : clP u m raw 3 = clB u m raw := rfl
theorem upB_size (u k : Nat) (x y : ByteArray) : (upB u k x y).size = 16 := by unfold upB; split <;> exact shB_size _
theorem clP_size (u : Nat) (m raw : ByteArray) (k : Nat) : (clP u m raw k).size = 16 := by
  cases k with
  | zero => exact shB_size _
  | succ k => exact upB_size _ _ _ _
/-- A key's text: its bytes and its error. -/
def kvE (key : ByteArray) : Int := if opnE 2 key = 0 then 0 else opnE 3 key
def kvS (key : ByteArray) : ByteArray := if opnE 2 key = 0 then opnS 2 key else opnS 3 key
def useN (raw : ByteArray) : Nat := (raw.data.toList.headD 0).toNat
/-- What Verify returns. -/
def verB (key m raw : ByteArray) : Bool := if kvE key = 0 ∧ raw.size = 625 ∧ useN raw < 8 then (topB (clB (useN raw) m raw)).toList == (kvS key).toList else false
theorem verB_ok {key m raw : ByteArray} (h : kvE key = 0 ∧ raw.size = 625 ∧ useN raw < 8) : verB key m raw = ((topB (clB (useN raw) m raw)).toList == (kvS key).toList) := if_pos h
theorem verB_no {key m raw : ByteArray} (h : ¬ (kvE key = 0 ∧ raw.size = 625 ∧ useN raw < 8)) : verB key m raw = false := if_neg h
theorem pkB_size (seed : ByteArray) : (pkB seed).size = 32 := smB_size _
theorem pk_key (seed : ByteArray) : IsPrim 2 (pkB seed) := ⟨by decide, by decide, pkB_size seed⟩
theorem pk_wit (seed : ByteArray) : IsPrim 3 (pkB seed) := ⟨by decide, by decide, pkB_size seed⟩
def keyB (seed : ByteArray) : ByteArray := txt 2 (pkB seed)
def witB (seed : ByteArray) : ByteArray := txt 3 (pkB seed)
theorem keyB_of (seed : ByteArray) : primS 2 (pkB seed) = keyB seed := (pk_key seed).primS
theorem witB_of (seed : ByteArray) : primS 3 (pkB seed) = witB seed := (pk_wit seed).primS
theorem keyB_size (seed : ByteArray) : (keyB seed).size = 44 := (pk_key seed).txt_size
theorem witB_size (seed : ByteArray) : (witB seed).size = 44 := (pk_wit seed).txt_size
theorem keyB_open (seed : ByteArray) : opnE 2 (keyB seed) = 0 ∧ kvE (keyB seed) = 0 ∧ kvS (keyB seed) = pkB seed := by
  have h := (pk_key seed).open_own
  have h1 : opnE 2 (keyB seed) = 0 := h.1
  refine ⟨h1, ?_, ?_⟩
  · unfold kvE; rw [if_pos h1]
  · unfold kvS; rw [if_pos h1]; exact h.2
theorem witB_open (seed : ByteArray) : opnE 3 (witB seed) = 0 ∧ kvE (witB seed) = 0 ∧ kvS (witB seed) = pkB seed := by
  have h := (pk_wit seed).open_own
  have h1 : opnE 3 (witB seed) = 0 := h.1
  have h2 : opnE 2 (witB seed) = 7 := ((pk_wit seed).open_other 2 (by decide)).1
  refine ⟨h1, ?_, ?_⟩
  · unfold kvE; rw [if_neg (by rw [h2]; decide)]; exact h1
  · unfold kvS; rw [if_neg (by rw [h2]; decide)]; exact h.2
theorem useN_sg (seed m : ByteArray) (u : Nat) (hu : u < 8) : useN (sgB seed u m) = u := by
  have h : ∀ r : ByteArray, (oneB u ++ r).data.toList = byteI u :: r.data.toList := fun r => by
    rw [ByteArray.data_append, Array.toList_append]; rfl
  have e : ∃ r : ByteArray, sgB seed u m = oneB u ++ r := ⟨signB (useB seed u) m ++ besB seed u 0 ++ besB seed u 1 ++ besB seed u 2, by unfold sgB; rw [ByteArray.append_assoc, ByteArray.append_assoc, ByteArray.append_assoc, ByteArray.append_assoc, ByteArray.append_assoc]⟩
  obtain ⟨r, e⟩ := e
  replace e := (congrArg (fun s : ByteArray => s.data.toList) e).trans (h r)
  unfold useN
  rw [e]
  show (byteI u).toNat = u
  have : ∀ u : Fin 8, (byteI ((u.1 : Nat) : Int)).toNat = u.1 := by decide
  exact this ⟨u, hu⟩
/-- What was signed is right, with the key as one that can be replaced and as one that stays. -/
theorem ver_key (seed m : ByteArray) (u : Nat) (hu : u < 8) : verB (keyB seed) m (sgB seed u m) = true := by
  have hk := keyB_open seed
  rw [verB_ok ⟨hk.2.1, sgB_size _ _ _, by rw [useN_sg seed m u hu]; exact hu⟩, useN_sg seed m u hu, sign_up seed u m hu, hk.2.2]
  show ((pkB seed).toList == (pkB seed).toList) = true
  simp
theorem ver_wit (seed m : ByteArray) (u : Nat) (hu : u < 8) : verB (witB seed) m (sgB seed u m) = true := by
  have hk := witB_open seed
  rw [verB_ok ⟨hk.2.1, sgB_size _ _ _, by rw [useN_sg seed m u hu]; exact hu⟩, useN_sg seed m u hu, sign_up seed u m hu, hk.2.2]
  show ((pkB seed).toList == (pkB seed).toList) = true
  simp
end Go.Proofs.YtpophimnoakinaaDoor
/- The document's key as a text, and Verify. -/
namespace Go.Proofs.YtpophimnoakinaaDoor
open Go.ChangeShapes Go.WideShapes Go.ChangeAt Go.RowKit
set_option linter.unusedVariables false
set_option linter.unusedSimpArgs false

set_option maxRecDepth 100000 in
theorem rkey12_any (seed : ByteArray) (w : World) (hs : seed.size ≤ 999990) : Calls Tryd.prog 13 #[.string seed] w fun e w' => e = .returned (.string (keyB seed)) ∧ Below w.heap.size w w' := by
  have A1 := Lib.hid (rpublic12_any seed w hs)
  have hz := pkB_size seed
  rw [← keyB_of]
  generalize pkB seed = p at A1 hz ⊢
  have A2 := Lib.hid (fun wx => rmake_any 2 p wx (by unfold maxLen; omega))
  generalize primS 2 p = r at A2 ⊢
  clear hz
  go_enter Tryd.func13, Tryd.ntmps13
  go_wp2_with (first
    | (go_at_call 11; (with_reducible refine A1.out.mono ?_); rintro e w1 ⟨rfl, hb1⟩)
    | (go_at_call 34; (with_reducible refine (A2.out _).mono ?_); rintro e w2 ⟨rfl, hb2⟩))
  go_ret
  exact ⟨rfl, hb1.trans (hb2.mono hb1.size)⟩
set_option maxRecDepth 100000 in
theorem rwitness12_any (seed : ByteArray) (w : World) (hs : seed.size ≤ 999990) : Calls Tryd.prog 15 #[.string seed] w fun e w' => e = .returned (.string (witB seed)) ∧ Below w.heap.size w w' := by
  have A1 := Lib.hid (rpublic12_any seed w hs)
  have hz := pkB_size seed
  rw [← witB_of]
  generalize pkB seed = p at A1 hz ⊢
  have A2 := Lib.hid (fun wx => rmake_any 3 p wx (by unfold maxLen; omega))
  generalize primS 3 p = r at A2 ⊢
  clear hz
  go_enter Tryd.func15, Tryd.ntmps15
  go_wp2_with (first
    | (go_at_call 11; (with_reducible refine A1.out.mono ?_); rintro e w1 ⟨rfl, hb1⟩)
    | (go_at_call 34; (with_reducible refine (A2.out _).mono ?_); rintro e w2 ⟨rfl, hb2⟩))
  go_ret
  exact ⟨rfl, hb1.trans (hb2.mono hb1.size)⟩
set_option maxRecDepth 100000 in
theorem ris_any (c : Int) (t : ByteArray) (w : World) (hr : t.size ≤ maxLen - 2) : Calls Tryd.prog 22 #[.int .i64 c, .string t] w fun e w' => e = .returned (.bool (opnE c t == 0)) ∧ Below w.heap.size w w' := by
  have A1 := Lib.hid (ropen_any c t w hr)
  generalize opnE c t = x at A1 ⊢
  generalize opnS c t = y at A1
  go_enter Tryd.func22, Tryd.ntmps22
  go_wp2_with (go_at_call 45; (with_reducible refine A1.out.mono ?_); rintro e w1 ⟨rfl, hb1⟩)
  go_ret
  exact ⟨rfl, hb1⟩
theorem shr_bit (u j : Nat) (hu : u < 8) (hj : j < 3) : bits BinOp.and IntKind.u8 ((u : Int) / 2 ^ j) 1 = ((u / 2 ^ j % 2 : Nat) : Int) := by
  have : ∀ u : Fin 8, ∀ j : Fin 3, bits BinOp.and IntKind.u8 (((u.1 : Nat) : Int) / 2 ^ j.1) 1 = ((u.1 / 2 ^ j.1 % 2 : Nat) : Int) := by decide
  exact this ⟨u, hu⟩ ⟨j, hj⟩
theorem byte_get (raw : ByteArray) (h : 0 < raw.size) : raw.data.toList[0]? = some (raw.data.toList.headD 0) := by
  have hl : 0 < raw.data.toList.length := h
  generalize raw.data.toList = l at hl
  cases l with
  | nil => simp at hl
  | cons a l => rfl
end Go.Proofs.YtpophimnoakinaaDoor
