/- Nodes as a walk reads them: a node as data, its six cells, slices of strings and of nodes; where its blocks lie is told by a predicate. For every program. -/
import Derived.Test.YtmlmdidaldcoiaaGreatDoorVfm
namespace Go.Proofs.YtmlmdidaldcoiaaGreatDoor
open Go Go.RowKit
set_option linter.unusedVariables false
set_option linter.unusedSimpArgs false

/-- A node as data. -/
inductive ND where
 | mk (kind : Int) (bool : Bool) (num : Int) (text : ByteArray) (names : List ByteArray) (items : List ND)
namespace ND
def kind : ND → Int | .mk k _ _ _ _ _ => k
def bool : ND → Bool | .mk _ b _ _ _ _ => b
def num : ND → Int | .mk _ _ n _ _ _ => n
def text : ND → ByteArray | .mk _ _ _ t _ _ => t
def names : ND → List ByteArray | .mk _ _ _ _ ns _ => ns
def items : ND → List ND | .mk _ _ _ _ _ its => its
end ND

/-- A slice of the strings ns. -/
def StrsIn (S : Nat → Prop) (w : World) (v : Value) (ns : List ByteArray) : Prop :=
 ∃ ao cap, v = .slice ao ns.length cap ∧ ns.length ≤ cap ∧ cap ≤ maxLen ∧ ∀ j s, ns[j]? = some s → ∃ b off, ao = some ⟨b, off, none⟩ ∧ S b ∧ w.cell? ⟨b, off + j, none⟩ = some (.string s) ∧ s.size ≤ maxLen - 2
/-- A slice of nodes of which each reads by R. -/
def NodesIn (R : List Value → ND → Prop) (S : Nat → Prop) (w : World) (v : Value) (its : List ND) : Prop :=
 ∃ ao cap, v = .slice ao its.length cap ∧ its.length ≤ cap ∧ cap ≤ maxLen ∧ ∀ j x, its[j]? = some x → ∃ b off cs, ao = some ⟨b, off, none⟩ ∧ S b ∧ (∀ f u, cs[f]? = some u → w.cell? ⟨b, off + j * 6 + f, none⟩ = some u) ∧ R cs x
/-- Six cells are a node that is at most d deep; all its blocks are in S. -/
def NodeIn : Nat → (Nat → Prop) → World → List Value → ND → Prop
 | 0, _, _, _, _ => False
 | d + 1, S, w, cs, x => ∃ vn vi, cs = [.int .i64 x.kind, .bool x.bool, .int .i64 x.num, .string x.text, vn, vi] ∧ x.text.size ≤ maxLen - 2 ∧ StrsIn S w vn x.names ∧ NodesIn (NodeIn d S w) S w vi x.items
section
variable {S S' : Nat → Prop} {w w' : World}
theorem StrsIn.same {v : Value} {ns : List ByteArray} (h : StrsIn S w v ns) (hb : ∀ b, S b → w'.heap[b]? = w.heap[b]?) : StrsIn S w' v ns := by
 obtain ⟨ao, cap, h1, h2, h3, h4⟩ := h
 refine ⟨ao, cap, h1, h2, h3, fun j s hj => ?_⟩
 obtain ⟨b, off, e, hS, hc, hs⟩ := h4 j s hj
 exact ⟨b, off, e, hS, by rw [cell_same (hb b hS)]; exact hc, hs⟩
theorem StrsIn.mono {v : Value} {ns : List ByteArray} (h : StrsIn S w v ns) (hS : ∀ b, S b → S' b) : StrsIn S' w v ns := by
 obtain ⟨ao, cap, h1, h2, h3, h4⟩ := h
 refine ⟨ao, cap, h1, h2, h3, fun j s hj => ?_⟩
 obtain ⟨b, off, e, hb, hc, hs⟩ := h4 j s hj
 exact ⟨b, off, e, hS b hb, hc, hs⟩
theorem NodesIn.same {R R' : List Value → ND → Prop} {v : Value} {its : List ND} (h : NodesIn R S w v its) (hb : ∀ b, S b → w'.heap[b]? = w.heap[b]?) (hR : ∀ cs x, R cs x → R' cs x) : NodesIn R' S w' v its := by
 obtain ⟨ao, cap, h1, h2, h3, h4⟩ := h
 refine ⟨ao, cap, h1, h2, h3, fun j x hj => ?_⟩
 obtain ⟨b, off, cs, e, hS, hc, hr⟩ := h4 j x hj
 exact ⟨b, off, cs, e, hS, fun f u hu => by rw [cell_same (hb b hS)]; exact hc f u hu, hR cs x hr⟩
theorem NodesIn.mono {R R' : List Value → ND → Prop} {v : Value} {its : List ND} (h : NodesIn R S w v its) (hS : ∀ b, S b → S' b) (hR : ∀ cs x, R cs x → R' cs x) : NodesIn R' S' w v its := by
 obtain ⟨ao, cap, h1, h2, h3, h4⟩ := h
 refine ⟨ao, cap, h1, h2, h3, fun j x hj => ?_⟩
 obtain ⟨b, off, cs, e, hb, hc, hr⟩ := h4 j x hj
 exact ⟨b, off, cs, e, hS b hb, hc, hR cs x hr⟩
theorem NodeIn.same : ∀ {d : Nat} {cs : List Value} {x : ND}, NodeIn d S w cs x → (∀ b, S b → w'.heap[b]? = w.heap[b]?) → NodeIn d S w' cs x
 | 0, _, _, h, _ => h
 | d + 1, cs, x, h, hb => by
  obtain ⟨vn, vi, h1, h2, h3, h4⟩ := h
  exact ⟨vn, vi, h1, h2, h3.same hb, h4.same hb fun cs x h => NodeIn.same h hb⟩
theorem NodeIn.mono : ∀ {d : Nat} {cs : List Value} {x : ND}, NodeIn d S w cs x → (∀ b, S b → S' b) → NodeIn d S' w cs x
 | 0, _, _, h, _ => h
 | d + 1, cs, x, h, hS => by
  obtain ⟨vn, vi, h1, h2, h3, h4⟩ := h
  exact ⟨vn, vi, h1, h2, h3.mono hS, h4.mono hS fun cs x h => NodeIn.mono h hS⟩
theorem NodeIn.deeper : ∀ {d d' : Nat} {cs : List Value} {x : ND}, d ≤ d' → NodeIn d S w cs x → NodeIn d' S w cs x
 | 0, _, _, _, _, h => h.elim
 | d + 1, 0, _, _, hd, _ => by omega
 | d + 1, d' + 1, cs, x, hd, h => by
  obtain ⟨vn, vi, h1, h2, h3, h4⟩ := h
  exact ⟨vn, vi, h1, h2, h3, h4.mono (fun _ h => h) fun cs x h => NodeIn.deeper (by omega) h⟩
theorem NodeIn.form {d : Nat} {cs : List Value} {x : ND} (h : NodeIn d S w cs x) : ∃ vn vi, cs = [.int .i64 x.kind, .bool x.bool, .int .i64 x.num, .string x.text, vn, vi] := by
 cases d with
 | zero => exact h.elim
 | succ d => obtain ⟨vn, vi, h1, _⟩ := h; exact ⟨vn, vi, h1⟩
theorem NodeIn.len {d : Nat} {cs : List Value} {x : ND} (h : NodeIn d S w cs x) : cs.length = 6 := by
 obtain ⟨vn, vi, rfl⟩ := h.form
 rfl
theorem StrsIn.nil (S : Nat → Prop) (w : World) : StrsIn S w (.slice none 0 0) [] := ⟨none, 0, rfl, Nat.le_refl _, Nat.zero_le _, fun j s h => by simp at h⟩
theorem NodesIn.nil (R : List Value → ND → Prop) (S : Nat → Prop) (w : World) : NodesIn R S w (.slice none 0 0) [] := ⟨none, 0, rfl, Nat.le_refl _, Nat.zero_le _, fun j s h => by simp at h⟩
end

/-- The zero node. -/
def nd0 : ND := .mk 0 false 0 ⟨#[]⟩ [] []
theorem node_leaf (S : Nat → Prop) (w : World) (k : Int) (b : Bool) (n : Int) (t : ByteArray) (ht : t.size ≤ maxLen - 2) : NodeIn 1 S w [.int .i64 k, .bool b, .int .i64 n, .string t, .slice none 0 0, .slice none 0 0] (.mk k b n t [] []) :=
 ⟨_, _, rfl, ht, StrsIn.nil S w, NodesIn.nil _ S w⟩

/-- A slice of strings that the call makes. -/
def SRow (TS : TypeId) (base : Nat) (w : World) (v : Value) (ns : List ByteArray) : Prop :=
 w.ownsRow base TS 1 v ns.length (ns.map Value.string) ∧ ∀ s, s ∈ ns → s.size ≤ maxLen - 2
theorem SRow.nil (TS : TypeId) (base : Nat) (w : World) : SRow TS base w (.slice none 0 0) [] := ⟨World.ownsRow_nil w _ _ _, fun x hx => by cases hx⟩
theorem SRow.kept {TS : TypeId} {base : Nat} {w w' : World} {v : Value} {ns : List ByteArray} {row : Option Nat} (h : SRow TS base w v ns) (hg : w.grownBy w' row) (hr : v.ownBlock = none ∨ v.ownBlock ≠ row) : SRow TS base w' v ns := ⟨h.1.kept hg hr, h.2⟩
theorem SRow.below {TS : TypeId} {base : Nat} {w w' : World} {v : Value} {ns : List ByteArray} (h : SRow TS base w v ns) (hb : Below w.heap.size w w') : SRow TS base w' v ns :=
 h.kept (grown_of_below hb (Nat.le_refl _) none) (by cases e : v.ownBlock with | none => exact .inl rfl | some b => exact .inr (by simp))
theorem SRow.push {TS : TypeId} {base : Nat} {w w2 : World} {v v' : Value} {ns : List ByteArray} {s : ByteArray} (h : SRow TS base w v ns) (hown : w2.ownsRow base TS 1 v' (ns.length + 1) (ns.map Value.string ++ [.string s])) (hs : s.size ≤ maxLen - 2) : SRow TS base w2 v' (ns ++ [s]) := by
 refine ⟨by rw [List.length_append, List.map_append]; exact hown, fun x hx => ?_⟩
 rcases List.mem_append.1 hx with hx | hx
 ·exact h.2 x hx
 ·cases List.mem_singleton.1 hx; exact hs
theorem SRow.strs {TS : TypeId} {base : Nat} {w : World} {v : Value} {ns : List ByteArray} (h : SRow TS base w v ns) : StrsIn (fun b => base ≤ b ∧ b < w.heap.size) w v ns := by
 obtain ⟨h1, h2⟩ := h
 rcases h1.2 with ⟨rfl, h0⟩ | ⟨g, cap, cur, rfl, hb, hg, hnc, hcm, hcs, hcu⟩
 ·have hn : ns = [] := List.length_eq_zero_iff.1 h0
  subst hn
  exact StrsIn.nil _ _
 ·refine ⟨_, cap, rfl, hnc, hcm, fun j s hj => ⟨g, 0, rfl, ⟨hb, lt_of_block hg⟩, ?_, h2 s (List.mem_of_getElem? hj)⟩⟩
  have := h1.cells (g := g) rfl j (.string s) (by rw [List.getElem?_map, hj]; rfl)
  rw [Addr.add_lit] at this; exact this
/-- The cells of nodes. -/
abbrev NC := List Value × ND
def nCells (A : List NC) : List Value := A.flatMap fun x => x.1
def nodesOf (A : List NC) : List ND := A.map fun x => x.2
theorem nCells_append (a b : List NC) : nCells (a ++ b) = nCells a ++ nCells b := by simp [nCells]
theorem nCells_at : ∀ {A : List NC} {j : Nat} {cs : List Value} {x : ND}, (∀ y, y ∈ A → y.1.length = 6) → A[j]? = some (cs, x) → ∀ f u, cs[f]? = some u → (nCells A)[j * 6 + f]? = some u
 | [], _, _, _, _, h, _, _, _ => by simp at h
 | y :: t, 0, cs, x, hl, h, f, u, hu => by
  simp at h
  subst h
  have hf : f < cs.length := by
   rcases Nat.lt_or_ge f cs.length with h' | h'
   ·exact h'
   ·rw [List.getElem?_eq_none h'] at hu; cases hu
  have e : nCells ((cs, x) :: t) = cs ++ nCells t := by simp [nCells]
  rw [e, Nat.zero_mul, Nat.zero_add, List.getElem?_append_left hf]
  exact hu
 | y :: t, j + 1, cs, x, hl, h, f, u, hu => by
  have ih := nCells_at (A := t) (j := j) (fun z hz => hl z (by simp [hz])) (by simpa using h) f u hu
  have e : nCells (y :: t) = y.1 ++ nCells t := by simp [nCells]
  have hy := hl y (by simp)
  rw [e, List.getElem?_append_right (by omega), hy, show (j + 1) * 6 + f - 6 = j * 6 + f by omega]
  exact ih
theorem nCells_length (A : List NC) (h : ∀ y, y ∈ A → y.1.length = 6) : (nCells A).length = A.length * 6 := by
 induction A with
 | nil => rfl
 | cons x t ih =>
  have e : nCells (x :: t) = x.1 ++ nCells t := by simp [nCells]
  rw [e, List.length_append, h x (by simp), ih fun y hy => h y (by simp [hy]), List.length_cons]; omega
/-- A slice of nodes that the call makes: its own blocks lie from base on; what the nodes lead to lies from base on, too, in other blocks than the slice's and than X (the block of the names). -/
def NRow (TN : TypeId) (d base : Nat) (X : Option Nat) (w : World) (v : Value) (A : List NC) : Prop :=
 w.ownsRow base TN 6 v A.length (nCells A) ∧ (∀ b, X = some b → v.ownBlock ≠ some b) ∧ ∀ x, x ∈ A → NodeIn d (fun b => base ≤ b ∧ b < w.heap.size ∧ v.ownBlock ≠ some b ∧ X ≠ some b) w x.1 x.2
theorem NRow.nil (TN : TypeId) (d base : Nat) (X : Option Nat) (w : World) : NRow TN d base X w (.slice none 0 0) [] := ⟨World.ownsRow_nil w _ _ _, fun b _ e => by simp [Value.ownBlock] at e, fun x hx => by cases hx⟩
/-- Something is written below base, or the names' slice has grown. -/
theorem NRow.kept {TN : TypeId} {d base : Nat} {X X' : Option Nat} {w w' : World} {v : Value} {A : List NC} {row : Option Nat} (h : NRow TN d base X w v A) (hg : w.grownBy w' row) (hr : ∀ r, row = some r → r < base ∨ X = some r) (hX : X' = X ∨ ∀ b, X' = some b → w.heap.size ≤ b) : NRow TN d base X' w' v A := by
 obtain ⟨h1, h0, h2⟩ := h
 refine ⟨h1.kept hg ?_, ?_, fun x hx => ?_⟩
 ·cases e : v.ownBlock with
  | none => exact .inl rfl
  | some b =>
   refine .inr fun e' => ?_
   have := (h1.lt b e).1
   rcases hr b e'.symm with hr | hr
   ·omega
   ·exact h0 b hr e
 ·intro b hb e
  rcases hX with rfl | hX
  ·exact h0 b hb e
  ·have := hX b hb
   have := (h1.lt b e).2
   omega
 ·refine ((h2 x hx).same (w' := w') fun b hb => hg.block b hb.2.1 fun e => ?_).mono fun b hb => ⟨hb.1, Nat.lt_of_lt_of_le hb.2.1 hg.size, hb.2.2.1, fun e => ?_⟩
  ·rcases hr b e.symm with hr | hr
   ·omega
   ·exact hb.2.2.2 hr
  ·rcases hX with rfl | hX
   ·exact hb.2.2.2 e
   ·have := hX b e
    omega
theorem NRow.below {TN : TypeId} {d base : Nat} {X : Option Nat} {w w' : World} {v : Value} {A : List NC} (h : NRow TN d base X w v A) (hb : Below w.heap.size w w') : NRow TN d base X w' v A :=
 h.kept (row := none) ⟨hb.os, hb.tape, hb.output, hb.size, fun i hi _ => hb.block i hi⟩ (fun r e => by cases e) (.inl rfl)
/-- One node more. -/
theorem NRow.push {TN : TypeId} {d base : Nat} {X : Option Nat} {w w2 : World} {v v' : Value} {A : List NC} {cs : List Value} {x : ND} (h : NRow TN d base X w v A)
  (hown : w2.ownsRow base TN 6 v' (A.length + 1) (nCells A ++ cs)) (hg : w.grownBy w2 v.ownBlock) (hat : v'.ownBlock = v.ownBlock ∨ ∀ b, v'.ownBlock = some b → w.heap.size ≤ b) (hXw : ∀ b, X = some b → b < w.heap.size)
  (hp : NodeIn d (fun b => base ≤ b ∧ b < w.heap.size ∧ v.ownBlock ≠ some b ∧ X ≠ some b) w cs x) : NRow TN d base X w2 v' (A ++ [(cs, x)]) := by
 obtain ⟨h1, h0, h2⟩ := h
 have key : ∀ (cs : List Value) (x : ND), NodeIn d (fun b => base ≤ b ∧ b < w.heap.size ∧ v.ownBlock ≠ some b ∧ X ≠ some b) w cs x → NodeIn d (fun b => base ≤ b ∧ b < w2.heap.size ∧ v'.ownBlock ≠ some b ∧ X ≠ some b) w2 cs x := by
  intro cs x q
  refine (q.same (w' := w2) fun b hb => hg.block b hb.2.1 fun e => hb.2.2.1 e.symm).mono fun b hb => ⟨hb.1, Nat.lt_of_lt_of_le hb.2.1 hg.size, fun e' => ?_, hb.2.2.2⟩
  rcases hat with ha | ha
  ·rw [ha] at e'; exact hb.2.2.1 e'
  ·have := ha b e'
   omega
 refine ⟨?_, ?_, fun y hy => ?_⟩
 ·rw [List.length_append, nCells_append]
  simpa [nCells] using hown
 ·intro b hb e
  rcases hat with ha | ha
  ·rw [ha] at e; exact h0 b hb e
  ·have := ha b e
   have := hXw b hb
   omega
 ·rcases List.mem_append.1 hy with hy | hy
  ·exact key _ _ (h2 y hy)
  ·cases List.mem_singleton.1 hy
   exact key _ _ hp
theorem NRow.nodes {TN : TypeId} {d base : Nat} {X : Option Nat} {w : World} {v : Value} {A : List NC} (h : NRow TN d base X w v A) : NodesIn (NodeIn d (fun b => base ≤ b ∧ b < w.heap.size) w) (fun b => base ≤ b ∧ b < w.heap.size) w v (nodesOf A) := by
 obtain ⟨h1, h0, h2⟩ := h
 have hl : (nodesOf A).length = A.length := by simp [nodesOf]
 have h6 : ∀ y, y ∈ A → y.1.length = 6 := fun y hy => (h2 y hy).len
 rcases h1.2 with ⟨rfl, hA0⟩ | ⟨g, cap, cur, rfl, hb, hg, hnc, hcm, hcs, hcu⟩
 ·have hn : A = [] := List.length_eq_zero_iff.1 hA0
  subst hn
  exact NodesIn.nil _ _ _
 ·refine ⟨_, cap, by rw [hl], by omega, hcm, fun j x hj => ?_⟩
  have hj' : j < A.length := by
   rcases Nat.lt_or_ge j A.length with h' | h'
   ·exact h'
   ·rw [List.getElem?_eq_none (by omega)] at hj; cases hj
  have e : A[j]? = some (A[j].1, A[j].2) := by rw [List.getElem?_eq_getElem hj']
  have hx : x = A[j].2 := by
   rw [nodesOf, List.getElem?_map, e] at hj
   exact (Option.some.inj hj).symm
  subst hx
  refine ⟨g, 0, A[j].1, rfl, ⟨hb, lt_of_block hg⟩, fun f u hu => ?_, (h2 _ (List.getElem_mem hj')).mono fun b hb => ⟨hb.1, hb.2.1⟩⟩
  have := h1.cells (g := g) rfl _ _ (nCells_at h6 e f u hu)
  rw [Addr.add_lit, ← Nat.add_assoc] at this; exact this

/-! ### blocks of six cells -/
theorem heap_set {w : World} {g j : Nat} {cs : Array Value} {T : TypeId} (h : w.heap[g]? = some (.cells cs T (0, 0))) (x : Value) : (w.setCell ⟨g, j, none⟩ x).heap[g]? = some (.cells (cs.setIfInBounds j x) T (0, 0)) := by
 have hlt := lt_of_block h
 have h' : w.heap[g] = .cells cs T (0, 0) := by simpa [Array.getElem?_eq_getElem hlt] using h
 show (w.heap.modify g _)[g]? = _
 rw [Array.getElem?_eq_getElem (by simpa using hlt), Array.getElem_modify_self, h']
 rfl
section
variable {w : World} {g : Nat} {a b c d e f : Value} {T : TypeId}
theorem six_of (h : w.heap[g]? = some (.cells #[a, b, c, d, e, f] T (0, 0))) : w.cell? ⟨g, 0, none⟩ = some a ∧ w.cell? ⟨g, 1, none⟩ = some b ∧ w.cell? ⟨g, 2, none⟩ = some c ∧ w.cell? ⟨g, 3, none⟩ = some d ∧ w.cell? ⟨g, 4, none⟩ = some e ∧ w.cell? ⟨g, 5, none⟩ = some f := by
 simp [World.cell?, h]
theorem free_six (h : w.heap[g]? = some (.cells #[a, b, c, d, e, f] T (0, 0))) : w.frozen? ⟨g, 0, none⟩ = false ∧ w.frozen? ⟨g, 1, none⟩ = false ∧ w.frozen? ⟨g, 2, none⟩ = false ∧ w.frozen? ⟨g, 3, none⟩ = false ∧ w.frozen? ⟨g, 4, none⟩ = false ∧ w.frozen? ⟨g, 5, none⟩ = false := by
 simp [World.frozen?, h]
theorem six_set0 (h : w.heap[g]? = some (.cells #[a, b, c, d, e, f] T (0, 0))) (x : Value) : (w.setCell ⟨g, 0, none⟩ x).heap[g]? = some (.cells #[x, b, c, d, e, f] T (0, 0)) := heap_set h x
theorem six_set1 (h : w.heap[g]? = some (.cells #[a, b, c, d, e, f] T (0, 0))) (x : Value) : (w.setCell ⟨g, 1, none⟩ x).heap[g]? = some (.cells #[a, x, c, d, e, f] T (0, 0)) := heap_set h x
theorem six_set2 (h : w.heap[g]? = some (.cells #[a, b, c, d, e, f] T (0, 0))) (x : Value) : (w.setCell ⟨g, 2, none⟩ x).heap[g]? = some (.cells #[a, b, x, d, e, f] T (0, 0)) := heap_set h x
theorem six_set3 (h : w.heap[g]? = some (.cells #[a, b, c, d, e, f] T (0, 0))) (x : Value) : (w.setCell ⟨g, 3, none⟩ x).heap[g]? = some (.cells #[a, b, c, x, e, f] T (0, 0)) := heap_set h x
theorem six_set4 (h : w.heap[g]? = some (.cells #[a, b, c, d, e, f] T (0, 0))) (x : Value) : (w.setCell ⟨g, 4, none⟩ x).heap[g]? = some (.cells #[a, b, c, d, x, f] T (0, 0)) := heap_set h x
theorem six_set5 (h : w.heap[g]? = some (.cells #[a, b, c, d, e, f] T (0, 0))) (x : Value) : (w.setCell ⟨g, 5, none⟩ x).heap[g]? = some (.cells #[a, b, c, d, e, x] T (0, 0)) := heap_set h x
/-- A whole node is stored. -/
def set6 (w : World) (g : Nat) (a b c d e f : Value) : World := (((((w.setCell ⟨g, 0, none⟩ a).setCell ⟨g, 1, none⟩ b).setCell ⟨g, 2, none⟩ c).setCell ⟨g, 3, none⟩ d).setCell ⟨g, 4, none⟩ e).setCell ⟨g, 5, none⟩ f
theorem six_put (h : w.heap[g]? = some (.cells #[a, b, c, d, e, f] T (0, 0))) (a' b' c' d' e' f' : Value) : (set6 w g a' b' c' d' e' f').heap[g]? = some (.cells #[a', b', c', d', e', f'] T (0, 0)) :=
 six_set5 (six_set4 (six_set3 (six_set2 (six_set1 (six_set0 h a') b') c') d') e') f'
theorem grown_set (w : World) (g j : Nat) (v : Value) : w.grownBy (w.setCell ⟨g, j, none⟩ v) (some g) :=
 ⟨rfl, rfl, rfl, by simp, fun i hi hne => heap_setCell_other w ⟨g, j, none⟩ i v (show i ≠ g from fun e => hne (by rw [e]))⟩
theorem grown_set6 (w : World) (g : Nat) (a b c d e f : Value) : w.grownBy (set6 w g a b c d e f) (some g) :=
 gtrans (gtrans (gtrans (gtrans (gtrans (grown_set w g 0 a) (grown_set _ g 1 b)) (grown_set _ g 2 c)) (grown_set _ g 3 d)) (grown_set _ g 4 e)) (grown_set _ g 5 f)
end

theorem ret_node {f : Func} {Q : Ending → World → Prop} {a : Act} {w : World} {g c s : Nat} {x0 x1 x2 x3 x4 x5 v y0 y1 y2 y3 y4 y5 : Value} (h : w.heap[g]? = some (.cells #[y0, y1, y2, y3, y4, y5] 30 (0, 0))) (hres : f.results = #[.cell c 30, .tmp s]) (hc : a.tmps.getD c undef = .pointer (some ⟨g, 0, none⟩)) (hs : a.tmps.getD s undef = v) (hd : a.defers = [])
  (hQ : Q (.returned (.tuple #[.agg #[x0, x1, x2, x3, x4, x5], v])) (set6 w g x0 x1 x2 x3 x4 x5)) : bodyPost Tryz.prog f Q .ret a (set6 w g x0 x1 x2 x3 x4 x5) := by
 refine bodyPost_ret (v := .tuple #[.agg #[x0, x1, x2, x3, x4, x5], v]) ?_ hd hQ
 obtain ⟨q0, q1, q2, q3, q4, q5⟩ := six_of (six_put h x0 x1 x2 x3 x4 x5)
 obtain ⟨tm, df⟩ := a
 simp only [Array.getD_eq_getD_getElem?] at hc hs
 simp [results, hres, go_sem, hc, hs, q0, q1, q2, q3, q4, q5]
end Go.Proofs.YtmlmdidaldcoiaaGreatDoor
