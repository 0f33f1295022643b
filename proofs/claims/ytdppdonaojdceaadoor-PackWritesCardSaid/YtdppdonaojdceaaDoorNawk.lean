/- Same: the program's own. Then: slices.Index over names, slices.Clone over nodes; Text, Number, List, Map. Then: Put, where the map that results is valid. Then: Text, Number, List, Map, Get. Then: The sanity check of the statements of node. -/
import Derived.Test.YtdppdonaojdceaaDoorNcop
import Derived.BigQuiet
import Derived.Deep.QuietTactic
import Derived.WalkSpells
import Derived.Test.YtdppdonaojdceaaDoorNvw
import Derived.Test.YtdppdonaojdceaaDoorPlan
import Derived.Deep.AppendLies
namespace Go.Proofs.YtdppdonaojdceaaDoor
open Go Go.ChangeShapes Go.WideShapes Go.ChangeAt Go.RowKit
set_option linter.unusedVariables false
set_option linter.unusedSimpArgs false

/-- Some bool that says whether p. -/
def BoolFor (p : Prop) (w : World) (e : Ending) (w' : World) : Prop := ∃ b : Bool, e = .returned (.bool b) ∧ (b = true ↔ p) ∧ Below w.heap.size w w'
theorem StrsIn.get {S : Nat → Prop} {w : World} {ao : Option Addr} {l cap : Nat} {ns : List ByteArray} (h : StrsIn S w (.slice ao l cap) ns) {j : Nat} {s : ByteArray} (hj : ns[j]? = some s) : ∃ b off, ao = some ⟨b, off, none⟩ ∧ S b ∧ w.cell? ⟨b, off + j, none⟩ = some (.string s) := by
  obtain ⟨ao', cap', e, h1, h2, h3⟩ := h
  cases e
  obtain ⟨b, off, e, hS, hc, _⟩ := h3 j s hj
  exact ⟨b, off, e, hS, hc⟩
theorem str_beq {a b : ByteArray} (h : a = b) : (a.toList == b.toList) = true := by rw [h]; exact beq_self_eq_true _
theorem str_bne {a b : ByteArray} (h : a ≠ b) : (a.toList == b.toList) = false := by
  rw [beq_eq_false_iff_ne]
  intro e
  rw [ByteArray.toList_eq, ByteArray.toList_eq] at e
  exact h (ByteArray.ext (Array.toList_inj.1 e))
end Go.Proofs.YtdppdonaojdceaaDoor

namespace Go.Proofs.YtdppdonaojdceaaDoor
open Go Go.ChangeShapes Go.WideShapes Go.ChangeAt Go.RowKit
set_option linter.unusedVariables false
set_option linter.unusedSimpArgs false

def idxZ (ns : List ByteArray) (s : ByteArray) : Int := match ns.findIdx? (fun t => decide (t = s)) with
  | some i => (i : Int)
  | none => -1
/-- A shallow copy of nodes: an own row of their cells. -/
def CloneNew (TN : TypeId) (d : Nat) (S : Nat → Prop) (w : World) (its : List ND) (e : Ending) (w' : World) : Prop := ∃ (v : Value) (A : List NC), e = .returned v ∧ w'.ownsRow w.heap.size TN 6 v A.length (nCells A) ∧ nodesOf A = its ∧ (∀ y, y ∈ A → NodeIn d S w y.1 y.2) ∧ Below w.heap.size w w'
/-- The cells of a slice of nodes that came in. -/
theorem NodesIn.cells {d : Nat} {S : Nat → Prop} {w : World} {a : Addr} {l cap : Nat} {its : List ND} (h : NodesIn (NodeIn d S w) S w (.slice (some a) l cap) its) : l = its.length ∧ ∃ A : List NC, nodesOf A = its ∧ A.length = its.length ∧ (∀ y, y ∈ A → NodeIn d S w y.1 y.2) ∧ ∀ j u, (nCells A)[j]? = some u → w.cell? (a.add j) = some u := by
  obtain ⟨ao, cap', e, h1, h2, h3⟩ := h
  cases e
  refine ⟨rfl, ?_⟩
  -- the six cells of each element, chosen
  have key : ∀ j, j < its.length → ∃ cs, NodeIn d S w cs (its.getD j nd0) ∧ ∃ b off, a = ⟨b, off, none⟩ ∧ ∀ f u, cs[f]? = some u → w.cell? ⟨b, off + j * 6 + f, none⟩ = some u := by
    intro j hj
    obtain ⟨b, off, cs, e, hS, hc, hr⟩ := h3 j _ (List.getElem?_eq_getElem hj)
    cases e
    exact ⟨cs, by rw [List.getD_eq_getElem?_getD, List.getElem?_eq_getElem hj]; exact hr, b, off, rfl, hc⟩
  have key2 : ∀ n, n ≤ its.length → ∃ A : List NC, nodesOf A = its.take n ∧ A.length = n ∧ (∀ y, y ∈ A → NodeIn d S w y.1 y.2) ∧ ∀ j u, (nCells A)[j]? = some u → w.cell? (a.add j) = some u := by
    intro n
    induction n with
    | zero => exact fun _ => ⟨[], rfl, rfl, (fun y hy => by cases hy), fun j u h => by simp [nCells] at h⟩
    | succ n ih =>
      intro hn
      obtain ⟨A, i1, i2, i3, i4⟩ := ih (by omega)
      obtain ⟨cs, hr, b, off, rfl, hc⟩ := key n (by omega)
      have h6 : ∀ y, y ∈ A → y.1.length = 6 := fun y hy => (i3 y hy).len
      have hlc := nCells_length A h6
      refine ⟨A ++ [(cs, its.getD n nd0)], ?_, by simp [i2], ?_, ?_⟩
      · rw [List.take_add_one, ← i1, List.getD_eq_getElem?_getD, List.getElem?_eq_getElem (by omega : n < its.length)]
        simp [nodesOf]
      · intro y hy
        rcases List.mem_append.1 hy with hy | hy
        · exact i3 y hy
        · cases List.mem_singleton.1 hy; exact hr
      · intro j u hj
        rw [nCells_append] at hj
        rcases Nat.lt_or_ge j (nCells A).length with hlt | hge
        · rw [List.getElem?_append_left hlt] at hj; exact i4 j u hj
        · rw [List.getElem?_append_right hge, hlc, i2] at hj
          have := hc (j - n * 6) u (by simpa [nCells] using hj)
          rw [Addr.add_lit, show off + j = off + n * 6 + (j - n * 6) by omega]
          exact this
  obtain ⟨A, i1, i2, i3, i4⟩ := key2 its.length (Nat.le_refl _)
  rw [List.take_length] at i1
  exact ⟨A, i1, i2, i3, i4⟩
end Go.Proofs.YtdppdonaojdceaaDoor

namespace Go.Proofs.YtdppdonaojdceaaDoor
open Go Go.ChangeShapes Go.WideShapes Go.ChangeAt Go.RowKit
set_option linter.unusedVariables false
set_option linter.unusedSimpArgs false

/-- Six cells of a row of nodes are replaced. -/
theorem nCells_set : ∀ (A : List NC) (i : Nat) (a b c d e f : Value) (x : ND), (∀ y, y ∈ A → y.1.length = 6) → i < A.length → ((((((nCells A).set (i * 6) a).set (i * 6 + 1) b).set (i * 6 + 2) c).set (i * 6 + 3) d).set (i * 6 + 4) e).set (i * 6 + 5) f = nCells (A.set i ([a, b, c, d, e, f], x))
  | [], i, _, _, _, _, _, _, _, _, h => by simp at h
  | y :: t, 0, a, b, c, d, e, f, x, h6, h => by
    obtain ⟨a', b', c', d', e', f', hy⟩ : ∃ a b c d e f, y.1 = [a, b, c, d, e, f] := by
      have := h6 y (by simp)
      match hq : y.1, this with
      | [a, b, c, d, e, f], _ => exact ⟨_, _, _, _, _, _, rfl⟩
    simp [nCells, hy]
  | y :: t, i + 1, a, b, c, d, e, f, x, h6, h => by
    have ih := nCells_set t i a b c d e f x (fun z hz => h6 z (by simp [hz])) (by simpa using h)
    have hy := h6 y (by simp)
    have e1 : nCells (y :: t) = y.1 ++ nCells t := by simp [nCells]
    have e2 : nCells ((y :: t).set (i + 1) ([a, b, c, d, e, f], x)) = y.1 ++ nCells (t.set i ([a, b, c, d, e, f], x)) := by simp [nCells]
    rw [e1, e2, ← ih]
    rw [show (i + 1) * 6 = i * 6 + 6 by omega]
    rw [List.set_append_right _ _ (by omega), List.set_append_right _ _ (by omega), List.set_append_right _ _ (by omega), List.set_append_right _ _ (by omega), List.set_append_right _ _ (by omega), List.set_append_right _ _ (by omega), hy]
    congr 1
theorem nodesOf_set (A : List NC) (i : Nat) (cs : List Value) (x : ND) : nodesOf (A.set i (cs, x)) = (nodesOf A).set i x := by simp [nodesOf, List.map_set]
/-- Six stores into an own row. -/
theorem owns_six {w : World} {base : Nat} {e : TypeId} {g n cap : Nat} {xs : List Value} (h : w.ownsRow base e 6 (.slice (some ⟨g, 0, none⟩) n cap) n xs) (i : Nat) (a b c d e' f : Value) :
    ((((((w.setCell ⟨g, i * 6, none⟩ a).setCell ⟨g, i * 6 + 1, none⟩ b).setCell ⟨g, i * 6 + 2, none⟩ c).setCell ⟨g, i * 6 + 3, none⟩ d).setCell ⟨g, i * 6 + 4, none⟩ e').setCell ⟨g, i * 6 + 5, none⟩ f).ownsRow base e 6 (.slice (some ⟨g, 0, none⟩) n cap) n ((((((xs.set (i * 6) a).set (i * 6 + 1) b).set (i * 6 + 2) c).set (i * 6 + 3) d).set (i * 6 + 4) e').set (i * 6 + 5) f) :=
  ((((((h.stored (i * 6) a).1.stored (i * 6 + 1) b).1.stored (i * 6 + 2) c).1.stored (i * 6 + 3) d).1.stored (i * 6 + 4) e').1.stored (i * 6 + 5) f).1
theorem six_stores (w : World) (g o : Nat) (a b c d e f : Value) : w.grownBy ((((((w.setCell ⟨g, o, none⟩ a).setCell ⟨g, o + 1, none⟩ b).setCell ⟨g, o + 2, none⟩ c).setCell ⟨g, o + 3, none⟩ d).setCell ⟨g, o + 4, none⟩ e).setCell ⟨g, o + 5, none⟩ f) (some g) :=
  gtrans (gtrans (gtrans (gtrans (gtrans (grown_set w g o a) (grown_set _ g (o + 1) b)) (grown_set _ g (o + 2) c)) (grown_set _ g (o + 3) d)) (grown_set _ g (o + 4) e)) (grown_set _ g (o + 5) f)
/-- The map that Put builds: the node's block gb, its two rows; the items lead to old blocks. -/
structure PSt (TN TS : TypeId) (d : Nat) (S : Nat → Prop) (w wx : World) (gb : Nat) (cv : List Value) (vn vi : Value) (ns : List ByteArray) (A : List NC) : Prop where
  res : wx.heap[w.heap.size + 2]? = some (.cells #[.int .i64 0, .bool false, .int .i64 0, .string ⟨#[]⟩, .slice none 0 0, .slice none 0 0] TN (0, 0))
  val : wx.heap[w.heap.size + 1]? = some (.cells cv.toArray TN (0, 0))
  nod : wx.heap[gb]? = some (.cells #[.int .i64 5, .bool false, .int .i64 0, .string ⟨#[]⟩, vn, vi] TN (0, 0))
  lo : w.heap.size + 3 ≤ gb
  names : SRow TS (w.heap.size + 3) wx vn ns
  items : wx.ownsRow (w.heap.size + 3) TN 6 vi A.length (nCells A)
  s1 : vn.ownBlock ≠ some gb
  s2 : vi.ownBlock ≠ some gb
  s3 : ∀ b, vn.ownBlock = some b → vi.ownBlock ≠ some b
  old : ∀ y, y ∈ A → NodeIn d S wx y.1 y.2
  bel : Below w.heap.size w wx
section
variable {TN TS : TypeId} {d : Nat} {S : Nat → Prop} {w wx wn : World} {gb : Nat} {cv : List Value} {vn vi : Value} {ns : List ByteArray} {A : List NC}
/-- Nothing that was there is written. -/
theorem PSt.below (h : PSt TN TS d S w wx gb cv vn vi ns A) (hb : Below wx.heap.size wx wn) (hS : ∀ b, S b → b < w.heap.size) : PSt TN TS d S w wn gb cv vn vi ns A := by
  have hk : ∀ {b : Nat} {o : Obj}, wx.heap[b]? = some o → wn.heap[b]? = some o := fun h => (hb.block _ (lt_of_block h)).trans h
  exact ⟨hk h.res, hk h.val, hk h.nod, h.lo, h.names.below hb, owns_below h.items hb, h.s1, h.s2, h.s3, fun y hy => (h.old y hy).same fun b hb' => hb.block b (Nat.lt_of_lt_of_le (hS b hb') h.bel.size), h.bel.trans (hb.mono h.bel.size)⟩
theorem PSt.forms (h : PSt TN TS d S w wx gb cv vn vi ns A) : (∃ an cn, vn = .slice an ns.length cn) ∧ ∃ ai ci, vi = .slice ai A.length ci := by
  constructor
  · obtain ⟨a, c, e, _⟩ := h.names.strs; exact ⟨a, c, e⟩
  · rcases h.items.2 with ⟨rfl, h0⟩ | ⟨g, cap, cur, rfl, _⟩
    · exact ⟨none, 0, by rw [h0]⟩
    · exact ⟨_, cap, rfl⟩
/-- What the walk reads of it: a node, in blocks of whatever age. -/
theorem PSt.node (h : PSt TN TS d S w wx gb cv vn vi ns A) (hS : ∀ b, S b → b < w.heap.size) : NodeIn (d + 1) (fun b => b < wx.heap.size) wx [.int .i64 5, .bool false, .int .i64 0, .string ⟨#[]⟩, vn, vi] (.mk 5 false 0 ⟨#[]⟩ ns (nodesOf A)) := by
  refine ⟨vn, vi, rfl, Nat.zero_le _, h.names.strs.mono fun b hb => hb.2, ?_⟩
  have hl : (nodesOf A).length = A.length := by simp [nodesOf]
  have h6 : ∀ y, y ∈ A → y.1.length = 6 := fun y hy => (h.old y hy).len
  have h1 := h.items
  rcases h1.2 with ⟨rfl, hA0⟩ | ⟨g, cap, cur, rfl, hb, hg, hnc, hcm, hcs, hcu⟩
  · have hn : A = [] := List.length_eq_zero_iff.1 hA0
    subst hn
    exact NodesIn.nil _ _ _
  · refine ⟨_, cap, by rw [show (ND.mk 5 false 0 ⟨#[]⟩ ns (nodesOf A)).items = nodesOf A from rfl, hl], by rw [show (ND.mk 5 false 0 ⟨#[]⟩ ns (nodesOf A)).items = nodesOf A from rfl, hl]; exact hnc, hcm, fun j x hj => ?_⟩
    have hj2 : (nodesOf A)[j]? = some x := hj
    have hj' : j < A.length := by have := lt_of_some hj2; omega
    have e : A[j]? = some (A[j].1, A[j].2) := by rw [List.getElem?_eq_getElem hj']
    have hx : x = A[j].2 := by
      rw [nodesOf, List.getElem?_map, e] at hj2
      exact (Option.some.inj hj2).symm
    subst hx
    refine ⟨g, 0, A[j].1, rfl, lt_of_block hg, fun f u hu => ?_, (h.old _ (List.getElem_mem hj')).mono fun b hb => Nat.lt_of_lt_of_le (hS b hb) h.bel.size⟩
    have := h1.cells (g := g) rfl _ _ (nCells_at h6 e f u hu)
    rw [Addr.add_lit, ← Nat.add_assoc] at this; exact this
/-- One name more. -/
theorem PSt.name {vn' : Value} {s : ByteArray} (h : PSt TN TS d S w wx gb cv vn vi ns A) (hS : ∀ b, S b → b < w.heap.size) (hown : wn.ownsRow (w.heap.size + 3) TS 1 vn' (ns.length + 1) (ns.map Value.string ++ [.string s])) (hg : wx.grownBy wn vn.ownBlock) (hat : vn'.ownBlock = vn.ownBlock ∨ ∀ b, vn'.ownBlock = some b → wx.heap.size ≤ b) (hs : s.size ≤ maxLen - 2) :
    PSt TN TS d S w (wn.setCell ⟨gb, 4, none⟩ vn') gb cv vn' vi (ns ++ [s]) A := by
  have hgb := lt_of_block h.nod
  have hlo := h.lo
  have hne : ∀ i, i ≠ gb → (wn.setCell ⟨gb, 4, none⟩ vn').heap[i]? = wn.heap[i]? := fun i hi => heap_setCell_other wn ⟨gb, 4, none⟩ i _ hi
  have hsz : (wn.setCell ⟨gb, 4, none⟩ vn').heap.size = wn.heap.size := by simp
  have hgs := grown_set wn gb 4 vn'
  have hold : ∀ j, j < w.heap.size + 3 → j < wx.heap.size → wn.heap[j]? = wx.heap[j]? := fun j hj hl => hg.block j hl fun e => by have := (h.names.1.lt j e.symm).1; omega
  have hrs := lt_of_block h.res
  have hn1 : vn'.ownBlock ≠ some gb := fun e => by
    rcases hat with ha | ha
    · rw [ha] at e; exact h.s1 e
    · have := ha gb e; omega
  refine ⟨(hne _ (by omega)).trans ((hold _ (by omega) hrs).trans h.res), (hne _ (by omega)).trans ((hold _ (by omega) (lt_of_block h.val)).trans h.val), six_set4 ((hg.block gb hgb (fun e => h.s1 e.symm)).trans h.nod) vn', hlo, ?_, ?_, hn1, h.s2, ?_, ?_, ?_⟩
  · exact (h.names.push hown hs).kept hgs (.inr fun e => hn1 e)
  · refine (h.items.kept hg ?_).kept hgs (.inr fun e => h.s2 e)
    cases e2 : vi.ownBlock with
    | none => exact .inl rfl
    | some b2 => exact .inr fun e3 => h.s3 b2 e3.symm e2
  · intro b hb e
    rcases hat with ha | ha
    · rw [ha] at hb; exact h.s3 b hb e
    · have := ha b hb
      have := (h.items.lt b e).2
      omega
  · intro y hy
    refine (h.old y hy).same fun b hb => (hne b (by have := hS b hb; omega)).trans (hold b (by have := hS b hb; omega) (Nat.lt_of_lt_of_le (hS b hb) h.bel.size))
  · have hb := h.bel
    exact ⟨hg.os.trans hb.os, hg.tape.trans hb.tape, hg.output.trans hb.output, by rw [hsz]; exact Nat.le_trans hb.size hg.size, fun i hi => (hne i (by omega)).trans ((hold i (by omega) (Nat.lt_of_lt_of_le hi hb.size)).trans (hb.block i hi))⟩
/-- One item more. -/
theorem PSt.item {vi' : Value} {cs : List Value} {y : ND} (h : PSt TN TS d S w wx gb cv vn vi ns A) (hS : ∀ b, S b → b < w.heap.size) (hown : wn.ownsRow (w.heap.size + 3) TN 6 vi' (A.length + 1) (nCells A ++ cs)) (hg : wx.grownBy wn vi.ownBlock) (hat : vi'.ownBlock = vi.ownBlock ∨ ∀ b, vi'.ownBlock = some b → wx.heap.size ≤ b) (hy : NodeIn d S wx cs y) :
    PSt TN TS d S w (wn.setCell ⟨gb, 5, none⟩ vi') gb cv vn vi' ns (A ++ [(cs, y)]) := by
  have hgb := lt_of_block h.nod
  have hlo := h.lo
  have hne : ∀ i, i ≠ gb → (wn.setCell ⟨gb, 5, none⟩ vi').heap[i]? = wn.heap[i]? := fun i hi => heap_setCell_other wn ⟨gb, 5, none⟩ i _ hi
  have hsz : (wn.setCell ⟨gb, 5, none⟩ vi').heap.size = wn.heap.size := by simp
  have hgs := grown_set wn gb 5 vi'
  have hold : ∀ j, j < w.heap.size + 3 → j < wx.heap.size → wn.heap[j]? = wx.heap[j]? := fun j hj hl => hg.block j hl fun e => by have := (h.items.lt j e.symm).1; omega
  have hrs := lt_of_block h.res
  have hn1 : vi'.ownBlock ≠ some gb := fun e => by
    rcases hat with ha | ha
    · rw [ha] at e; exact h.s2 e
    · have := ha gb e; omega
  have hoy : ∀ {cs : List Value} {x : ND}, NodeIn d S wx cs x → NodeIn d S (wn.setCell ⟨gb, 5, none⟩ vi') cs x := fun q => q.same fun b hb => (hne b (by have := hS b hb; omega)).trans (hold b (by have := hS b hb; omega) (Nat.lt_of_lt_of_le (hS b hb) h.bel.size))
  refine ⟨(hne _ (by omega)).trans ((hold _ (by omega) hrs).trans h.res), (hne _ (by omega)).trans ((hold _ (by omega) (lt_of_block h.val)).trans h.val), six_set5 ((hg.block gb hgb (fun e => h.s2 e.symm)).trans h.nod) vi', hlo, ?_, ?_, h.s1, hn1, ?_, ?_, ?_⟩
  · refine (h.names.kept hg ?_).kept hgs (.inr fun e => h.s1 e)
    cases e2 : vn.ownBlock with
    | none => exact .inl rfl
    | some b2 => exact .inr fun e3 => h.s3 b2 e2 e3.symm
  · refine World.ownsRow.kept ?_ hgs (.inr fun e => hn1 e)
    rw [List.length_append, nCells_append]
    simpa [nCells] using hown
  · intro b hb e
    rcases hat with ha | ha
    · rw [ha] at e; exact h.s3 b hb e
    · have := ha b e
      have := (h.names.1.lt b hb).2
      omega
  · intro z hz
    rcases List.mem_append.1 hz with hz | hz
    · exact hoy (h.old z hz)
    · cases List.mem_singleton.1 hz; exact hoy hy
  · have hb := h.bel
    exact ⟨hg.os.trans hb.os, hg.tape.trans hb.tape, hg.output.trans hb.output, by rw [hsz]; exact Nat.le_trans hb.size hg.size, fun i hi => (hne i (by omega)).trans ((hold i (by omega) (Nat.lt_of_lt_of_le hi hb.size)).trans (hb.block i hi))⟩
/-- An item is replaced. -/
theorem PSt.set {g cap i : Nat} {a b c dd e f : Value} {y : ND} (h : PSt TN TS d S w wx gb cv vn (.slice (some ⟨g, 0, none⟩) A.length cap) ns A) (hS : ∀ b, S b → b < w.heap.size) (hi : i < A.length) (hy : NodeIn d S wx [a, b, c, dd, e, f] y) :
    PSt TN TS d S w ((((((wx.setCell ⟨g, i * 6, none⟩ a).setCell ⟨g, i * 6 + 1, none⟩ b).setCell ⟨g, i * 6 + 2, none⟩ c).setCell ⟨g, i * 6 + 3, none⟩ dd).setCell ⟨g, i * 6 + 4, none⟩ e).setCell ⟨g, i * 6 + 5, none⟩ f) gb cv vn (.slice (some ⟨g, 0, none⟩) A.length cap) ns (A.set i ([a, b, c, dd, e, f], y)) := by
  have hg := six_stores wx g (i * 6) a b c dd e f
  have hrow := owns_six h.items i a b c dd e f
  have h6 : ∀ y, y ∈ A → y.1.length = 6 := fun y hy => (h.old y hy).len
  rw [nCells_set A i a b c dd e f y h6 hi] at hrow
  have hlo := h.lo
  have hgl := (h.items.lt g rfl)
  have hgne : g ≠ gb := fun e => h.s2 (by rw [e]; rfl)
  have hk : ∀ {b : Nat} {o : Obj}, b ≠ g → wx.heap[b]? = some o → _ := fun {b o} hb hh => (hg.block b (lt_of_block hh) (by intro e; exact hb (Option.some.inj e))).trans hh
  have hoy : ∀ {cs : List Value} {x : ND}, NodeIn d S wx cs x → NodeIn d S _ cs x := fun q => q.same fun b hb => hg.block b (Nat.lt_of_lt_of_le (hS b hb) h.bel.size) (by intro e; have := Option.some.inj e; have := hS b hb; omega)
  refine ⟨hk (by omega) h.res, hk (by omega) h.val, hk (fun e => hgne e.symm) h.nod, hlo, h.names.kept hg ?_, by rw [List.length_set]; exact hrow, h.s1, h.s2, h.s3, ?_, ?_⟩
  · cases e2 : vn.ownBlock with
    | none => exact .inl rfl
    | some b2 => exact .inr fun e3 => h.s3 b2 e2 (show (Value.slice (some ⟨g, 0, none⟩) A.length cap).ownBlock = some b2 from e3.symm)
  · intro z hz
    rcases List.mem_or_eq_of_mem_set hz with hz | rfl
    · exact hoy (h.old z hz)
    · exact hoy hy
  · have hb := h.bel
    exact ⟨hg.os.trans hb.os, hg.tape.trans hb.tape, hg.output.trans hb.output, Nat.le_trans hb.size hg.size, fun i hi => (hg.block i (Nat.lt_of_lt_of_le hi hb.size) (by intro e; have := Option.some.inj e; omega)).trans (hb.block i hi)⟩
end
theorem SRow.base {TS : TypeId} {b b' : Nat} {w : World} {v : Value} {ns : List ByteArray} (h : SRow TS b w v ns) (hb : b' ≤ b) : SRow TS b' w v ns := by
  obtain ⟨⟨h1, h2 | ⟨g, cap, cur, hv, hg, r⟩⟩, h3⟩ := h
  · exact ⟨⟨h1, .inl h2⟩, h3⟩
  · exact ⟨⟨h1, .inr ⟨g, cap, cur, hv, by omega, r⟩⟩, h3⟩
theorem _root_.Go.World.ownsRow.base {b b' : Nat} {w : World} {e : TypeId} {size n : Nat} {v : Value} {xs : List Value} (h : w.ownsRow b e size v n xs) (hb : b' ≤ b) : w.ownsRow b' e size v n xs := by
  obtain ⟨h1, h2 | ⟨g, cap, cur, hv, hg, r⟩⟩ := h
  · exact ⟨h1, .inl h2⟩
  · exact ⟨h1, .inr ⟨g, cap, cur, hv, by omega, r⟩⟩
theorem own_form {w : World} {b : Nat} {e : TypeId} {size n : Nat} {v : Value} {xs : List Value} (h : w.ownsRow b e size v n xs) : ∃ a c, v = .slice a n c := by
  rcases h.2 with ⟨rfl, h0⟩ | ⟨g, cap, cur, rfl, _⟩
  · exact ⟨none, 0, by rw [h0]⟩
  · exact ⟨_, cap, rfl⟩
theorem SRow.ownAt {TS : TypeId} {base : Nat} {w : World} {v : Value} {ns : List ByteArray} (h : SRow TS base w v ns) : StrsIn (fun b => v.ownBlock = some b) w v ns := by
  obtain ⟨h1, h2⟩ := h
  rcases h1.2 with ⟨rfl, h0⟩ | ⟨g, cap, cur, rfl, hb, hg, hnc, hcm, hcs, hcu⟩
  · have hn : ns = [] := List.length_eq_zero_iff.1 h0
    subst hn
    exact StrsIn.nil _ _
  · refine ⟨_, cap, rfl, hnc, hcm, fun j s hj => ⟨g, 0, rfl, rfl, ?_, h2 s (List.mem_of_getElem? hj)⟩⟩
    have := h1.cells (g := g) rfl j (.string s) (by rw [List.getElem?_map, hj]; rfl)
    rw [Addr.add_lit] at this; exact this
/-- What Put hands back where all is valid. -/
def PutNew (d : Nat) (w : World) (y : ND) (e : Ending) (w' : World) : Prop := ∃ vn vi : Value, e = .returned (.tuple #[.agg #[.int .i64 5, .bool false, .int .i64 0, .string ⟨#[]⟩, vn, vi], .int .i64 0]) ∧ NodeIn d (Fr w.heap.size w') w' [.int .i64 5, .bool false, .int .i64 0, .string ⟨#[]⟩, vn, vi] y ∧ Below w.heap.size w w'
end Go.Proofs.YtdppdonaojdceaaDoor

namespace Go.Proofs.YtdppdonaojdceaaDoor
open Go Go.ChangeShapes Go.WideShapes Go.ChangeAt Go.RowKit
set_option linter.unusedVariables false
set_option linter.unusedSimpArgs false

set_option maxRecDepth 100000 in
theorem ntext_any (s : ByteArray) (w : World) : Calls Tryd.prog 39 #[.string s] w fun e w' => e = .returned (.agg #[.int .i64 3, .bool false, .int .i64 0, .string s, .slice none 0 0, .slice none 0 0]) ∧ Below w.heap.size w w' := by
  go_enter Tryd.func39, Tryd.ntmps39
  go_wp2
  refine bodyPost_ret (v := .agg #[.int .i64 3, .bool false, .int .i64 0, .string s, .slice none 0 0, .slice none 0 0]) ?_ ?_ ?_
  rotate_left
  · rfl
  · exact ⟨rfl, (Below.refl _ _).alloc (Nat.le_refl _) _⟩
  · obtain ⟨q0, q1, q2, q3, q4, q5⟩ := six_of (heap_alloc_new w (.cells #[.int .i64 3, .bool false, .int .i64 0, .string s, .slice none 0 0, .slice none 0 0] 26))
    simp [results, Tryd.results39, go_sem, q0, q1, q2, q3, q4, q5]
set_option maxRecDepth 100000 in
theorem nnum_any (z : Int) (w : World) : Calls Tryd.prog 37 #[.int .i64 z] w fun e w' => e = .returned (.agg #[.int .i64 2, .bool false, .int .i64 z, .string ⟨#[]⟩, .slice none 0 0, .slice none 0 0]) ∧ Below w.heap.size w w' := by
  go_enter Tryd.func37, Tryd.ntmps37
  go_wp2
  refine bodyPost_ret (v := .agg #[.int .i64 2, .bool false, .int .i64 z, .string ⟨#[]⟩, .slice none 0 0, .slice none 0 0]) ?_ ?_ ?_
  rotate_left
  · rfl
  · exact ⟨rfl, (Below.refl _ _).alloc (Nat.le_refl _) _⟩
  · obtain ⟨q0, q1, q2, q3, q4, q5⟩ := six_of (heap_alloc_new w (.cells #[.int .i64 2, .bool false, .int .i64 z, .string ⟨#[]⟩, .slice none 0 0, .slice none 0 0] 26))
    simp [results, Tryd.results37, go_sem, q0, q1, q2, q3, q4, q5]
end Go.Proofs.YtdppdonaojdceaaDoor

namespace Go.Proofs.YtdppdonaojdceaaDoor
open Go Go.ChangeShapes Go.WideShapes Go.ChangeAt Go.RowKit
set_option linter.unusedVariables false
set_option linter.unusedSimpArgs false

/-- A slice of strings that stands in one block. -/
theorem strs_of_block {S : Nat → Prop} {w : World} {b : Nat} {T : TypeId} {cs : Array Value} (ns : List ByteArray) (h : w.heap[b]? = some (.cells cs T (0, 0))) (e : cs = (ns.map Value.string).toArray) (hS : S b) (hn : ns.length ≤ maxLen) (hs : ∀ s, s ∈ ns → s.size ≤ maxLen - 2) : StrsIn S w (.slice (some ⟨b, 0, none⟩) ns.length ns.length) ns :=
  ⟨_, _, rfl, Nat.le_refl _, hn, fun j s hj => ⟨b, 0, rfl, hS, by have := cells_lits ns h e j s hj; rw [Nat.zero_add]; exact this, hs s (List.mem_of_getElem? hj)⟩⟩
/-- A slice of nodes that stands in one block. -/
theorem nodes_of_block {d : Nat} {S : Nat → Prop} {w : World} {b : Nat} {T : TypeId} {cs : Array Value} (A : List NC) (h : w.heap[b]? = some (.cells cs T (0, 0))) (e : cs = (nCells A).toArray) (hS : S b) (hn : A.length ≤ maxLen) (hA : ∀ y, y ∈ A → NodeIn d S w y.1 y.2) : NodesIn (NodeIn d S w) S w (.slice (some ⟨b, 0, none⟩) A.length A.length) (nodesOf A) := by
  have hl : (nodesOf A).length = A.length := by simp [nodesOf]
  refine ⟨some ⟨b, 0, none⟩, A.length, by rw [hl], by rw [hl]; exact Nat.le_refl _, hn, fun j x hj => ?_⟩
  have hj' : j < A.length := by have := lt_of_some hj; omega
  have ej : A[j]? = some (A[j].1, A[j].2) := by rw [List.getElem?_eq_getElem hj']
  have hx : x = A[j].2 := by
    rw [nodesOf, List.getElem?_map, ej] at hj
    exact (Option.some.inj hj).symm
  subst hx
  refine ⟨b, 0, A[j].1, rfl, hS, fun f u hu => ?_, hA _ (List.getElem_mem hj')⟩
  have := cells_lit _ h e _ _ (nCells_at (fun y hy => (hA y hy).len) ej f u hu)
  rw [Nat.zero_add]; exact this
end Go.Proofs.YtdppdonaojdceaaDoor
