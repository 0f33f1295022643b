/- The kit's nodes and the third serialisation. No program. -/
import Derived.Test.YtdppdonaojdceaaDoorCwl
import Derived.Test.YtdppdonaojdceaaDoorMpf
import Derived.Test.YtdppdonaojdceaaDoorMde
namespace Go.Proofs.YtdppdonaojdceaaDoor
open Go.Lib
set_option linter.unusedVariables false
set_option linter.unusedSimpArgs false

/-- What is known of the kit's nodes. -/
structure KitM (x : ND) : Prop where
  err : mpE x = 0
  txt : mpS x = bC (writeP 8 x)
  len : (writeP 8 x).length ≤ 65536
  valid : validN 8 x = true
  nums : numsB 8 x = true
theorem KitM.of {d : Nat} {x : ND} (hd : d ≤ 4) (h : validW d x = true) (hc : costN d x ≤ bndN d) : KitM x := by
  have h8 : validN 8 x = true := validN_mono (by omega) (validW_valid h)
  have hn8 : numsB 8 x = true := cnumsB_up (by omega) (validW_valid h) (validW_nums h)
  have hl : (writeP 8 x).length ≤ 65536 := by
    rw [writeP_same (e := d) (by omega) (validW_valid h)]
    have := writeP_cost d x (validW_valid h)
    have := cbnd_4 d hd
    omega
  obtain ⟨e1, e2⟩ := mpse_good h8 (show ¬ 65536 < (writeP 8 x).length by omega)
  exact ⟨e2, e1, hl, h8, hn8⟩
theorem KitM.ofMap {d : Nat} {x : ND} (h1 : 1 ≤ d) (hd : d ≤ 4) (h : MapOk (d - 1) x) (hi : ∀ y, y ∈ x.items → validK (d - 1) y = true) (hc : costN d x ≤ bndN d) : KitM x :=
  KitM.of hd (ckitMap_valid h1 h fun y hy => validK_w (hi y hy)) hc
theorem KitM.w {x : ND} (h : KitM x) : validW 8 x = true := by unfold validW; rw [h.valid, h.nums]; rfl
/-- What was encoded is decoded. -/
theorem KitM.dec {x n : ND} {er : Int} (h : KitM x) (hd : MDecIs (mpS x) n er) : er = 0 ∧ n = x := by
  rw [h.txt] at hd
  rcases hd with ⟨h0, h1, h2, h3, -⟩ | ⟨-, -, h4⟩
  · refine ⟨h0, writeP_inj (d := 8) ?_ h.w ?_⟩
    · unfold validW; rw [h1, h2]; rfl
    · rw [h3, bC_data]
  · exact absurd (by rw [bC_data]) (h4 x h.valid h.nums (by rw [bC_size]; exact h.len))
/-- The texts are equal just if the nodes are. -/
theorem KitM.inj {x y : ND} (h : KitM x) (k : KitM y) : mpS x = mpS y ↔ x = y := by
  refine ⟨fun e => ?_, fun e => by rw [e]⟩
  rw [h.txt, k.txt] at e
  refine writeP_inj (d := 8) h.w k.w ?_
  have := congrArg (fun b : ByteArray => b.data.toList) e
  simpa only [bC_data] using this
/-- What is read is written again just so. -/
theorem mdec_enc {x : ByteArray} {n : ND} (h : MDecIs x n 0) : mpS n = x ∧ mpE n = 0 ∧ validN 8 n = true ∧ numsB 8 n = true := by
  rcases h with ⟨-, h1, h2, h3, h4⟩ | ⟨h0, -, -⟩
  · have hl : (writeP 8 n).length = x.size := by rw [h3, Array.length_toList]; rfl
    obtain ⟨e1, e2⟩ := mpse_good h1 (show ¬ 65536 < (writeP 8 n).length by omega)
    refine ⟨?_, e2, h1, h2⟩
    rw [e1, h3]
    exact bC_of x
  · cases h0
/-- If it is valid, it is so at depth 4, and its numbers are ints. -/
def FineM (x : ND) : Prop := validN 8 x = true → validN 4 x = true ∧ numsB 8 x = true
theorem FineM.len {x : ND} (h : FineM x) (hv : validN 8 x = true) : numsB 8 x = true ∧ (writeP 8 x).length ≤ 35184372088832 := by
  obtain ⟨h4, h8⟩ := h hv
  refine ⟨h8, ?_⟩
  rw [writeP_same (e := 4) (d := 8) (by decide) h4]
  exact Nat.le_trans (writeP_cost 4 x h4) (Nat.le_trans (costN_cap 4 x h4) cap_4)
theorem FineM.of {d : Nat} {x : ND} (hd : d ≤ 4) (hv : validN d x = true) (hn : numsB d x = true) : FineM x := fun _ => ⟨validN_mono hd hv, cnumsB_up (by omega) hv hn⟩
theorem FineM.flat {x : ND} (h : ∀ y, y ∈ x.items → y.items = []) (hn : numsB 8 x = true) : FineM x := fun hv => by
  refine ⟨?_, hn⟩
  rw [validN_succ, Bool.and_eq_true, List.all_eq_true] at hv ⊢
  refine ⟨hv.1, fun y hy => ?_⟩
  have hy7 := hv.2 y hy
  rw [validN_succ, Bool.and_eq_true] at hy7 ⊢
  refine ⟨hy7.1, ?_⟩
  rw [h y hy]; rfl
/-- What is asked of a node that is encoded twice. -/
def TryM (D : Nat) (x : ND) : Prop := lowV D x ∧ FineM x
theorem awkM1 : mpS (.mk 2 false 128 ⟨#[]⟩ [] []) = ⟨#[204, 128]⟩ ∧ mpE (.mk 2 false 128 ⟨#[]⟩ [] []) = 0 := by
  obtain ⟨h1, h2⟩ := mpse_good (x := .mk 2 false 128 ⟨#[]⟩ [] []) (by decide +kernel) (by decide +kernel)
  rw [h1, h2]; exact ⟨rfl, rfl⟩
theorem awkM2 : mpS (.mk 2 false (-33) ⟨#[]⟩ [] []) = ⟨#[208, 223]⟩ ∧ mpE (.mk 2 false (-33) ⟨#[]⟩ [] []) = 0 := by
  obtain ⟨h1, h2⟩ := mpse_good (x := .mk 2 false (-33) ⟨#[]⟩ [] []) (by decide +kernel) (by decide +kernel)
  rw [h1, h2]; exact ⟨rfl, rfl⟩
end Go.Proofs.YtdppdonaojdceaaDoor
