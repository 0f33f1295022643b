/- The kit's nodes and the second serialisation. No program. Then: How long a node's bytes are at most; nodes that a law of cbor asks about. No program. -/
import Derived.Test.YtdppdonaojdceaaDoorCde
import Derived.Test.YtdppdonaojdceaaDoorCen
import Derived.Test.YtdppdonaojdceaaDoorNkn
import Derived.Test.YtdppdonaojdceaaDoorNvw
namespace Go.Proofs.YtdppdonaojdceaaDoor
open Go.Lib
set_option linter.unusedVariables false
set_option linter.unusedSimpArgs false

theorem cbnd_4 : ∀ d, d ≤ 4 → bndN d ≤ 65536 := by
  have : ∀ d : Fin 5, bndN d.1 ≤ 65536 := by decide
  exact fun d hd => this ⟨d, by omega⟩
theorem cnumsB_up : ∀ {d e : Nat} {x : ND}, d ≤ e → validN d x = true → numsB d x = true → numsB e x = true
  | 0, _, _, _, h, _ => by cases h
  | d + 1, 0, _, h, _, _ => by omega
  | d + 1, e + 1, x, hd, hv, hn => by
    rw [validN_succ, Bool.and_eq_true, List.all_eq_true] at hv
    rw [numsB_succ, Bool.and_eq_true, List.all_eq_true] at hn ⊢
    exact ⟨hn.1, fun y hy => cnumsB_up (by omega) (hv.2 y hy) (hn.2 y hy)⟩
theorem clowV {d : Nat} {x : ND} (h : validN d x = true) (D : Nat) : lowV D x := lowV_of_lowN (lowN_of_valid d D x h)
/-- What is known of the kit's nodes. -/
structure KitC (x : ND) : Prop where
  err : csE x = 0
  txt : csS x = bC (writeC 8 x)
  len : (writeC 8 x).length ≤ 65536
  valid : validN 8 x = true
  nums : numsB 8 x = true
theorem KitC.of {d : Nat} {x : ND} (hd : d ≤ 4) (h : validW d x = true) (hc : costN d x ≤ bndN d) : KitC x := by
  have h8 : validN 8 x = true := validN_mono (by omega) (validW_valid h)
  have hn8 : numsB 8 x = true := cnumsB_up (by omega) (validW_valid h) (validW_nums h)
  have hl : (writeC 8 x).length ≤ 65536 := by
    rw [writeC_same (e := d) (by omega) (validW_valid h)]
    have := writeC_cost d x (validW_valid h)
    have := cbnd_4 d hd
    omega
  obtain ⟨e1, e2⟩ := cse_good h8 (show ¬ 65536 < (writeC 8 x).length by omega)
  exact ⟨e2, e1, hl, h8, hn8⟩
theorem ckitMap_valid {d : Nat} {x : ND} (hd : 1 ≤ d) (h : MapOk (d - 1) x) (hi : ∀ y, y ∈ x.items → validW (d - 1) y = true) : validW d x = true := by
  obtain ⟨m, rfl⟩ : ∃ m, d = m + 1 := ⟨d - 1, by omega⟩
  exact validW_mk ((mapOk_iff h.kind).2 h) (by rw [h.num]; decide) hi
theorem KitC.ofMap {d : Nat} {x : ND} (h1 : 1 ≤ d) (hd : d ≤ 4) (h : MapOk (d - 1) x) (hi : ∀ y, y ∈ x.items → validK (d - 1) y = true) (hc : costN d x ≤ bndN d) : KitC x :=
  KitC.of hd (ckitMap_valid h1 h fun y hy => validK_w (hi y hy)) hc
theorem KitC.w {x : ND} (h : KitC x) : validW 8 x = true := by unfold validW; rw [h.valid, h.nums]; rfl
/-- What was encoded is decoded. -/
theorem KitC.dec {x n : ND} {er : Int} (h : KitC x) (hd : CDecIs (csS x) n er) : er = 0 ∧ n = x := by
  rw [h.txt] at hd
  rcases hd with ⟨h0, h1, h2, h3, -⟩ | ⟨-, -, h4⟩
  · refine ⟨h0, writeC_inj (d := 8) ?_ h.w ?_⟩
    · unfold validW; rw [h1, h2]; rfl
    · rw [h3, bC_data]
  · exact absurd (by rw [bC_data]) (h4 x h.valid h.nums (by rw [bC_size]; exact h.len))
/-- The texts are equal just if the nodes are. -/
theorem KitC.inj {x y : ND} (h : KitC x) (k : KitC y) : csS x = csS y ↔ x = y := by
  refine ⟨fun e => ?_, fun e => by rw [e]⟩
  rw [h.txt, k.txt] at e
  refine writeC_inj (d := 8) h.w k.w ?_
  have := congrArg (fun b : ByteArray => b.data.toList) e
  simpa only [bC_data] using this
/-- What is read is written again just so. -/
theorem cdec_enc {x : ByteArray} {n : ND} (h : CDecIs x n 0) : csS n = x ∧ csE n = 0 ∧ validN 8 n = true ∧ numsB 8 n = true := by
  rcases h with ⟨-, h1, h2, h3, h4⟩ | ⟨h0, -, -⟩
  · have hl : (writeC 8 n).length = x.size := by rw [h3, Array.length_toList]; rfl
    obtain ⟨e1, e2⟩ := cse_good h1 (show ¬ 65536 < (writeC 8 n).length by omega)
    refine ⟨?_, e2, h1, h2⟩
    rw [e1, h3]
    exact bC_of x
  · cases h0
end Go.Proofs.YtdppdonaojdceaaDoor

namespace Go.Proofs.YtdppdonaojdceaaDoor
open Go.Lib
set_option linter.unusedVariables false
set_option linter.unusedSimpArgs false

theorem sum_cap {A : Type} (f : A → Nat) (B : Nat) : ∀ l : List A, (∀ x, x ∈ l → f x ≤ B) → (l.map f).sum ≤ l.length * B
  | [], _ => by simp
  | x :: t, h => by
    have h1 := sum_cap f B t fun y hy => h y (by simp [hy])
    have h2 := h x (by simp)
    rw [List.map_cons, List.sum_cons, List.length_cons, Nat.add_mul]
    omega
/-- What a valid node costs at most. -/
def capK : Nat → Nat
  | 0 => 0
  | 1 => 393240
  | d + 2 => 101059584 + 256 * (capK (d + 1) + 1)
theorem costN_cap : ∀ (d : Nat) (x : ND), validN d x = true → costN d x ≤ capK d
  | 0, _, h => by cases h
  | 1, x, h => by
    obtain ⟨hi, -, htx, -⟩ := validN_parts h
    have h6 := textOk_le htx
    have hit : x.items = [] := by
      cases hx : x.items with
      | nil => rfl
      | cons y t => have := hi y (by rw [hx]; simp); cases this
    have hnm : x.names = [] := by
      rcases kinds h with e | e | e | e | e | ⟨e, hl⟩
      · rw [e]; rfl
      · rw [e]; rfl
      · rw [e]; rfl
      · rw [e]; rfl
      · rw [e]; rfl
      · rw [hit] at hl; exact List.length_eq_zero_iff.1 hl
    rw [costN_succ, hit, hnm]
    show 24 + 6 * x.text.size + 0 + 0 ≤ 393240
    omega
  | d + 2, x, h => by
    obtain ⟨hi, hl, htx, hns⟩ := validN_parts h
    have h6 := textOk_le htx
    have h1 := sum_cap (fun y => costN (d + 1) y + 1) (capK (d + 1) + 1) x.items fun y hy => Nat.succ_le_succ (costN_cap (d + 1) y (hi y hy))
    have hnl : x.names.length ≤ 256 := by
      rcases kinds h with e | e | e | e | e | ⟨e, hl2⟩
      · rw [e]; decide
      · rw [e]; exact Nat.zero_le _
      · rw [e]; exact Nat.zero_le _
      · rw [e]; exact Nat.zero_le _
      · rw [e]; exact Nat.zero_le _
      · omega
    have h2 := sum_cap (fun s : ByteArray => 6 * s.size + 8) 393224 x.names fun s hs => by have := textOk_le (hns s hs); show 6 * s.size + 8 ≤ 393224; omega
    have h3 : x.items.length * (capK (d + 1) + 1) ≤ 256 * (capK (d + 1) + 1) := Nat.mul_le_mul_right _ hl
    have h4 : x.names.length * 393224 ≤ 256 * 393224 := Nat.mul_le_mul_right _ hnl
    rw [costN_succ]
    show _ ≤ 101059584 + 256 * (capK (d + 1) + 1)
    omega
theorem cap_4 : capK 4 ≤ 35184372088832 := by decide
/-- If it is valid, it is so at depth 4, and its numbers are ints. -/
def FineC (x : ND) : Prop := validN 8 x = true → validN 4 x = true ∧ numsB 8 x = true
theorem FineC.len {x : ND} (h : FineC x) (hv : validN 8 x = true) : numsB 8 x = true ∧ (writeC 8 x).length ≤ 35184372088832 := by
  obtain ⟨h4, h8⟩ := h hv
  refine ⟨h8, ?_⟩
  rw [writeC_same (e := 4) (d := 8) (by decide) h4]
  exact Nat.le_trans (writeC_cost 4 x h4) (Nat.le_trans (costN_cap 4 x h4) cap_4)
theorem FineC.of {d : Nat} {x : ND} (hd : d ≤ 4) (hv : validN d x = true) (hn : numsB d x = true) : FineC x := fun _ => ⟨validN_mono hd hv, cnumsB_up (by omega) hv hn⟩
theorem FineC.flat {x : ND} (h : ∀ y, y ∈ x.items → y.items = []) (hn : numsB 8 x = true) : FineC x := fun hv => by
  refine ⟨?_, hn⟩
  rw [validN_succ, Bool.and_eq_true, List.all_eq_true] at hv ⊢
  refine ⟨hv.1, fun y hy => ?_⟩
  have hy7 := hv.2 y hy
  rw [validN_succ, Bool.and_eq_true] at hy7 ⊢
  refine ⟨hy7.1, ?_⟩
  rw [h y hy]; rfl
theorem clowV_flat {D : Nat} {x : ND} (h : ∀ y, y ∈ x.items → y.items = []) (hl : x.items.length ≤ 1000000) : lowV D x := by
  cases D with
  | zero => trivial
  | succ D =>
    refine ⟨hl, fun y hy => ?_⟩
    cases D with
    | zero => trivial
    | succ D => rw [show lowV (D + 1) y = (y.items.length ≤ 1000000 ∧ ∀ z, z ∈ y.items → lowV D z) from rfl, h y hy]; exact ⟨Nat.zero_le _, fun z hz => by cases hz⟩
/-- What is asked of a node that is encoded twice. -/
def TryC (D : Nat) (x : ND) : Prop := lowV D x ∧ FineC x
theorem cleafK (k n : Int) : ∀ y, y ∈ (ND.mk k false n ⟨#[]⟩ [] []).items → y.items = [] := fun y hy => by cases hy
theorem cnums_leaf (k n : Int) (h : wideI n = true) : numsB 8 (.mk k false n ⟨#[]⟩ [] []) = true := by
  rw [numsB_succ, Bool.and_eq_true]; exact ⟨h, rfl⟩
theorem awkC1 : csS (.mk 2 false 24 ⟨#[]⟩ [] []) = ⟨#[24, 24]⟩ ∧ csE (.mk 2 false 24 ⟨#[]⟩ [] []) = 0 := by
  obtain ⟨h1, h2⟩ := cse_good (x := .mk 2 false 24 ⟨#[]⟩ [] []) (by decide +kernel) (by decide +kernel)
  rw [h1, h2]; exact ⟨rfl, rfl⟩
theorem awkC2 : csS (.mk 3 false 0 ⟨#[97]⟩ [] []) = ⟨#[97, 97]⟩ ∧ csE (.mk 3 false 0 ⟨#[97]⟩ [] []) = 0 := by
  obtain ⟨h1, h2⟩ := cse_good (x := .mk 3 false 0 ⟨#[97]⟩ [] []) (by decide +kernel) (by decide +kernel)
  rw [h1, h2]; exact ⟨rfl, rfl⟩
end Go.Proofs.YtdppdonaojdceaaDoor
