/- Same: the program's own. Then: slices.Index over names, slices.Clone over nodes; Text, Number, List, Map. Then: Put, where the map that results is valid. Then: Text, Number, List, Map, Get. Then: The sanity check of the statements of node. -/
import Derived.Test.YtdppdonaojdceaaGreatDoorMpf
import Derived.Test.YtdppdonaojdceaaGreatDoorJen
import Derived.Test.YtdppdonaojdceaaGreatDoorMps
import Derived.Test.YtdppdonaojdceaaGreatDoorNkn
import Derived.Test.YtdppdonaojdceaaGreatDoorMfc
import Derived.Test.YtdppdonaojdceaaGreatDoorNvw
import Derived.Test.YtdppdonaojdceaaGreatDoorPlan
import Derived.BigQuiet
import Derived.Deep.QuietTactic
import Derived.WalkSpells
import Derived.Deep.AppendLies
import Derived.Deep.CutRange
namespace Go.Proofs.YtdppdonaojdceaaGreatDoor
open Go Go.ChangeShapes Go.WideShapes Go.ChangeAt Go.RowKit
set_option linter.unusedVariables false
set_option linter.unusedSimpArgs false

/-- Some bool that says whether p. -/
def BoolFor (p : Prop) (w : World) (e : Ending) (w' : World) : Prop := ∃ b : Bool, e = .returned (.bool b) ∧ (b = true ↔ p) ∧ Below w.heap.size w w'
theorem StrsIn.get {S : Nat → Prop} {w : World} {ao : Option Addr} {l cap : Nat} {ns : List ByteArray} (h : StrsIn S w (.slice ao l cap) ns) {j : Nat} {s : ByteArray} (hj : ns[j]? = some s) : ∃ b off, ao = some ⟨b, off, none⟩ ∧ S b ∧ w.cell? ⟨b, off + j, none⟩ = some (.string s) := by
 obtain ⟨ao', cap', e, h1, h2, h3⟩ := h
 cases e
 obtain ⟨b, off, e, hS, hc, _⟩ := h3 j s hj
 exact ⟨b, off, e, hS, hc⟩
theorem str_beq {a b : ByteArray} (h : a = b) : (a.toList == b.toList) = true := by rw [h]; exact beq_self_eq_true _
theorem str_bne {a b : ByteArray} (h : a ≠ b) : (a.toList == b.toList) = false := by
 rw [beq_eq_false_iff_ne]
 intro e
 rw [ByteArray.toList_eq, ByteArray.toList_eq] at e
 exact h (ByteArray.ext (Array.toList_inj.1 e))
end Go.Proofs.YtdppdonaojdceaaGreatDoor

namespace Go.Proofs.YtdppdonaojdceaaGreatDoor
open Go Go.ChangeShapes Go.WideShapes Go.ChangeAt Go.RowKit
set_option linter.unusedVariables false
set_option linter.unusedSimpArgs false

end Go.Proofs.YtdppdonaojdceaaGreatDoor

namespace Go.Proofs.YtdppdonaojdceaaGreatDoor
open Go Go.ChangeShapes Go.WideShapes Go.ChangeAt Go.RowKit
set_option linter.unusedVariables false
set_option linter.unusedSimpArgs false

section
variable {TN TS : TypeId} {d : Nat} {S : Nat → Prop} {w wx wn : World} {gb : Nat} {cv : List Value} {vn vi : Value} {ns : List ByteArray} {A : List NC}
end
end Go.Proofs.YtdppdonaojdceaaGreatDoor

namespace Go.Proofs.YtdppdonaojdceaaGreatDoor
open Go Go.ChangeShapes Go.WideShapes Go.ChangeAt Go.RowKit
set_option linter.unusedVariables false
set_option linter.unusedSimpArgs false

set_option maxRecDepth 100000 in
theorem ntext_any (s : ByteArray) (w : World) : Calls Tryz.prog 91 #[.string s] w fun e w' => e = .returned (.agg #[.int .i64 3, .bool false, .int .i64 0, .string s, .slice none 0 0, .slice none 0 0]) ∧ Below w.heap.size w w' := by
 go_enter Tryz.func91, Tryz.ntmps91
 go_wp2
 refine bodyPost_ret (v := .agg #[.int .i64 3, .bool false, .int .i64 0, .string s, .slice none 0 0, .slice none 0 0]) ?_ ?_ ?_
 rotate_left
 ·rfl
 ·exact ⟨rfl, (Below.refl _ _).alloc (Nat.le_refl _) _⟩
 ·obtain ⟨q0, q1, q2, q3, q4, q5⟩ := six_of (heap_alloc_new w (.cells #[.int .i64 3, .bool false, .int .i64 0, .string s, .slice none 0 0, .slice none 0 0] 30))
  simp [results, Tryz.results91, go_sem, q0, q1, q2, q3, q4, q5]
set_option maxRecDepth 100000 in
theorem nnum_any (z : Int) (w : World) : Calls Tryz.prog 106 #[.int .i64 z] w fun e w' => e = .returned (.agg #[.int .i64 2, .bool false, .int .i64 z, .string ⟨#[]⟩, .slice none 0 0, .slice none 0 0]) ∧ Below w.heap.size w w' := by
 go_enter Tryz.func106, Tryz.ntmps106
 go_wp2
 refine bodyPost_ret (v := .agg #[.int .i64 2, .bool false, .int .i64 z, .string ⟨#[]⟩, .slice none 0 0, .slice none 0 0]) ?_ ?_ ?_
 rotate_left
 ·rfl
 ·exact ⟨rfl, (Below.refl _ _).alloc (Nat.le_refl _) _⟩
 ·obtain ⟨q0, q1, q2, q3, q4, q5⟩ := six_of (heap_alloc_new w (.cells #[.int .i64 2, .bool false, .int .i64 z, .string ⟨#[]⟩, .slice none 0 0, .slice none 0 0] 30))
  simp [results, Tryz.results106, go_sem, q0, q1, q2, q3, q4, q5]
end Go.Proofs.YtdppdonaojdceaaGreatDoor

namespace Go.Proofs.YtdppdonaojdceaaGreatDoor
open Go Go.ChangeShapes Go.WideShapes Go.ChangeAt Go.RowKit
set_option linter.unusedVariables false
set_option linter.unusedSimpArgs false

end Go.Proofs.YtdppdonaojdceaaGreatDoor
/- Decode of the second serialisation, the document's own: the node of some bytes, or the error. -/
namespace Go.Proofs.YtdppdonaojdceaaGreatDoor
open Go Go.ChangeShapes Go.WideShapes Go.ChangeAt Go.RowKit
set_option linter.unusedVariables false
set_option linter.unusedSimpArgs false

theorem cnumsB_down : ∀ {d e : Nat} {x : ND}, d ≤ e → numsB e x = true → numsB d x = true
 | 0, _, _, _, _ => rfl
 | d + 1, 0, _, h, _ => by omega
 | d + 1, e + 1, x, hd, hn => by
  rw [numsB_succ, Bool.and_eq_true, List.all_eq_true] at hn ⊢
  exact ⟨hn.1, fun y hy => cnumsB_down (by omega) (hn.2 y hy)⟩
/-- The node that some bytes are, or none. -/
def CDecIs (s : ByteArray) (x : ND) (er : Int) : Prop := (er = 0 ∧ validN 8 x = true ∧ numsB 8 x = true ∧ writeC 8 x = s.data.toList ∧ s.size ≤ 65536) ∨ (er = 4 ∧ x = nd0 ∧ ∀ y, validN 8 y = true → numsB 8 y = true → s.size ≤ 65536 → writeC 8 y ≠ s.data.toList)
def CDecPost (s : ByteArray) (w : World) (e : Ending) (w' : World) : Prop := ∃ (cs : List Value) (x : ND) (er : Int), e = .returned (.tuple #[.agg cs.toArray, .int .i64 er]) ∧ NodeIn 9 (fun b => w.heap.size ≤ b ∧ b < w'.heap.size) w' cs x ∧ Below w.heap.size w w' ∧ CDecIs s x er
end Go.Proofs.YtdppdonaojdceaaGreatDoor
/- The kit's nodes and the second serialisation. No program. Then: How long a node's bytes are at most; nodes that a law of cbor asks about. No program. -/
namespace Go.Proofs.YtdppdonaojdceaaGreatDoor
open Go.Lib
set_option linter.unusedVariables false
set_option linter.unusedSimpArgs false

theorem cbnd_4 : ∀ d, d ≤ 4 → bndN d ≤ 65536 := by
 have : ∀ d : Fin 5, bndN d.1 ≤ 65536 := by decide
 exact fun d hd => this ⟨d, by omega⟩
theorem cnumsB_up : ∀ {d e : Nat} {x : ND}, d ≤ e → validN d x = true → numsB d x = true → numsB e x = true
 | 0, _, _, _, h, _ => by cases h
 | d + 1, 0, _, h, _, _ => by omega
 | d + 1, e + 1, x, hd, hv, hn => by
  rw [validN_succ, Bool.and_eq_true, List.all_eq_true] at hv
  rw [numsB_succ, Bool.and_eq_true, List.all_eq_true] at hn ⊢
  exact ⟨hn.1, fun y hy => cnumsB_up (by omega) (hv.2 y hy) (hn.2 y hy)⟩
theorem clowV {d : Nat} {x : ND} (h : validN d x = true) (D : Nat) : lowV D x := lowV_of_lowN (lowN_of_valid d D x h)
/-- What is known of the kit's nodes. -/
structure KitC (x : ND) : Prop where
 err : csE x = 0
 txt : csS x = bC (writeC 8 x)
 len : (writeC 8 x).length ≤ 65536
 valid : validN 8 x = true
 nums : numsB 8 x = true
theorem KitC.of {d : Nat} {x : ND} (hd : d ≤ 4) (h : validW d x = true) (hc : costN d x ≤ bndN d) : KitC x := by
 have h8 : validN 8 x = true := validN_mono (by omega) (validW_valid h)
 have hn8 : numsB 8 x = true := cnumsB_up (by omega) (validW_valid h) (validW_nums h)
 have hl : (writeC 8 x).length ≤ 65536 := by
  rw [writeC_same (e := d) (by omega) (validW_valid h)]
  have := writeC_cost d x (validW_valid h)
  have := cbnd_4 d hd
  omega
 obtain ⟨e1, e2⟩ := cse_good h8 (show ¬ 65536 < (writeC 8 x).length by omega)
 exact ⟨e2, e1, hl, h8, hn8⟩
theorem KitC.w {x : ND} (h : KitC x) : validW 8 x = true := by unfold validW; rw [h.valid, h.nums]; rfl
/-- What was encoded is decoded. -/
theorem KitC.dec {x n : ND} {er : Int} (h : KitC x) (hd : CDecIs (csS x) n er) : er = 0 ∧ n = x := by
 rw [h.txt] at hd
 rcases hd with ⟨h0, h1, h2, h3, -⟩ | ⟨-, -, h4⟩
 ·refine ⟨h0, writeC_inj (d := 8) ?_ h.w ?_⟩
  ·unfold validW; rw [h1, h2]; rfl
  ·rw [h3, bC_data]
 ·exact absurd (by rw [bC_data]) (h4 x h.valid h.nums (by rw [bC_size]; exact h.len))
end Go.Proofs.YtdppdonaojdceaaGreatDoor

namespace Go.Proofs.YtdppdonaojdceaaGreatDoor
open Go.Lib
set_option linter.unusedVariables false
set_option linter.unusedSimpArgs false

end Go.Proofs.YtdppdonaojdceaaGreatDoor
/- The sanity check of the statements of json; nodes that a law asks about. -/
namespace Go.Proofs.YtdppdonaojdceaaGreatDoor
open Go Go.ChangeShapes Go.WideShapes Go.ChangeAt Go.RowKit
set_option linter.unusedVariables false
set_option linter.unusedSimpArgs false

theorem numsB_up : ∀ {d e : Nat} {x : ND}, d ≤ e → validN d x = true → numsB d x = true → numsB e x = true
 | 0, _, _, _, h, _ => by cases h
 | d + 1, 0, _, h, _, _ => by omega
 | d + 1, e + 1, x, hd, hv, hn => by
  rw [validN_succ, Bool.and_eq_true, List.all_eq_true] at hv
  rw [numsB_succ, Bool.and_eq_true, List.all_eq_true] at hn ⊢
  exact ⟨hn.1, fun y hy => numsB_up (by omega) (hv.2 y hy) (hn.2 y hy)⟩
theorem numsB_down : ∀ {d e : Nat} {x : ND}, d ≤ e → numsB e x = true → numsB d x = true
 | 0, _, _, _, _ => rfl
 | d + 1, 0, _, h, _ => by omega
 | d + 1, e + 1, x, hd, hn => by
  rw [numsB_succ, Bool.and_eq_true, List.all_eq_true] at hn ⊢
  exact ⟨hn.1, fun y hy => numsB_down (by omega) (hn.2 y hy)⟩
end Go.Proofs.YtdppdonaojdceaaGreatDoor
/- The document's reader of the third serialisation: values at every depth. Then: Decode of the third serialisation, the document's own: the node of some bytes, or the error. -/
namespace Go.Proofs.YtdppdonaojdceaaGreatDoor
open Go Go.ChangeShapes Go.WideShapes Go.ChangeAt Go.RowKit
set_option linter.unusedVariables false
set_option linter.unusedSimpArgs false

end Go.Proofs.YtdppdonaojdceaaGreatDoor

namespace Go.Proofs.YtdppdonaojdceaaGreatDoor
open Go Go.ChangeShapes Go.WideShapes Go.ChangeAt Go.RowKit
set_option linter.unusedVariables false
set_option linter.unusedSimpArgs false

theorem mnumsB_down : ∀ {d e : Nat} {x : ND}, d ≤ e → numsB e x = true → numsB d x = true
 | 0, _, _, _, _ => rfl
 | d + 1, 0, _, h, _ => by omega
 | d + 1, e + 1, x, hd, hn => by
  rw [numsB_succ, Bool.and_eq_true, List.all_eq_true] at hn ⊢
  exact ⟨hn.1, fun y hy => mnumsB_down (by omega) (hn.2 y hy)⟩
/-- The node that some bytes are, or none. -/
def MDecIs (s : ByteArray) (x : ND) (er : Int) : Prop := (er = 0 ∧ validN 8 x = true ∧ numsB 8 x = true ∧ writeP 8 x = s.data.toList ∧ s.size ≤ 65536) ∨ (er = 4 ∧ x = nd0 ∧ ∀ y, validN 8 y = true → numsB 8 y = true → s.size ≤ 65536 → writeP 8 y ≠ s.data.toList)
def MDecPost (s : ByteArray) (w : World) (e : Ending) (w' : World) : Prop := ∃ (cs : List Value) (x : ND) (er : Int), e = .returned (.tuple #[.agg cs.toArray, .int .i64 er]) ∧ NodeIn 9 (fun b => w.heap.size ≤ b ∧ b < w'.heap.size) w' cs x ∧ Below w.heap.size w w' ∧ MDecIs s x er
end Go.Proofs.YtdppdonaojdceaaGreatDoor
/- The kit's nodes and the third serialisation. No program. -/
namespace Go.Proofs.YtdppdonaojdceaaGreatDoor
open Go.Lib
set_option linter.unusedVariables false
set_option linter.unusedSimpArgs false

/-- What is known of the kit's nodes. -/
structure KitM (x : ND) : Prop where
 err : mpE x = 0
 txt : mpS x = bC (writeP 8 x)
 len : (writeP 8 x).length ≤ 65536
 valid : validN 8 x = true
 nums : numsB 8 x = true
theorem KitM.of {d : Nat} {x : ND} (hd : d ≤ 4) (h : validW d x = true) (hc : costN d x ≤ bndN d) : KitM x := by
 have h8 : validN 8 x = true := validN_mono (by omega) (validW_valid h)
 have hn8 : numsB 8 x = true := cnumsB_up (by omega) (validW_valid h) (validW_nums h)
 have hl : (writeP 8 x).length ≤ 65536 := by
  rw [writeP_same (e := d) (by omega) (validW_valid h)]
  have := writeP_cost d x (validW_valid h)
  have := cbnd_4 d hd
  omega
 obtain ⟨e1, e2⟩ := mpse_good h8 (show ¬ 65536 < (writeP 8 x).length by omega)
 exact ⟨e2, e1, hl, h8, hn8⟩
theorem KitM.w {x : ND} (h : KitM x) : validW 8 x = true := by unfold validW; rw [h.valid, h.nums]; rfl
/-- What was encoded is decoded. -/
theorem KitM.dec {x n : ND} {er : Int} (h : KitM x) (hd : MDecIs (mpS x) n er) : er = 0 ∧ n = x := by
 rw [h.txt] at hd
 rcases hd with ⟨h0, h1, h2, h3, -⟩ | ⟨-, -, h4⟩
 ·refine ⟨h0, writeP_inj (d := 8) ?_ h.w ?_⟩
  ·unfold validW; rw [h1, h2]; rfl
  ·rw [h3, bC_data]
 ·exact absurd (by rw [bC_data]) (h4 x h.valid h.nums (by rw [bC_size]; exact h.len))
theorem awkM1 : mpS (.mk 2 false 128 ⟨#[]⟩ [] []) = ⟨#[204, 128]⟩ ∧ mpE (.mk 2 false 128 ⟨#[]⟩ [] []) = 0 := by
 obtain ⟨h1, h2⟩ := mpse_good (x := .mk 2 false 128 ⟨#[]⟩ [] []) (by decide +kernel) (by decide +kernel)
 rw [h1, h2]; exact ⟨rfl, rfl⟩
theorem awkM2 : mpS (.mk 2 false (-33) ⟨#[]⟩ [] []) = ⟨#[208, 223]⟩ ∧ mpE (.mk 2 false (-33) ⟨#[]⟩ [] []) = 0 := by
 obtain ⟨h1, h2⟩ := mpse_good (x := .mk 2 false (-33) ⟨#[]⟩ [] []) (by decide +kernel) (by decide +kernel)
 rw [h1, h2]; exact ⟨rfl, rfl⟩
end Go.Proofs.YtdppdonaojdceaaGreatDoor
