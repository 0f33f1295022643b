/- Copies of nodes: the program's own (copiedTexts, copiedItems, copied) and the document's (Copy). -/
import Derived.Test.YtdppdonaojdceaaDoorNmap
import Derived.Maps.AppendAt
import Derived.BigFrame
namespace Go.Proofs.YtdppdonaojdceaaDoor
open Go Go.ChangeShapes Go.WideShapes Go.ChangeAt Go.RowKit
set_option linter.unusedVariables false
set_option linter.unusedSimpArgs false

/-- Nodes whose lists are all of a reach that can be copied. -/
def lowN : Nat → ND → Prop
  | 0, _ => True
  | d + 1, x => x.names.length ≤ 1000000 ∧ x.items.length ≤ 1000000 ∧ ∀ y, y ∈ x.items → lowN d y
theorem lowN_of_valid : ∀ (d e : Nat) (x : ND), validN d x = true → lowN e x
  | _, 0, _, _ => trivial
  | 0, e + 1, _, h => by cases h
  | d + 1, e + 1, x, h => by
    rw [validN_succ, Bool.and_eq_true, List.all_eq_true] at h
    obtain ⟨hf, hv⟩ := h
    unfold flatOk at hf
    simp only [Bool.and_eq_true, Bool.or_eq_true, decide_eq_true_eq] at hf
    obtain ⟨⟨⟨⟨⟨⟨⟨⟨⟨⟨⟨-, -⟩, -⟩, -⟩, -⟩, -⟩, h1⟩, -⟩, h2⟩, h3⟩, -⟩, -⟩ := hf
    refine ⟨?_, by omega, fun y hy => lowN_of_valid d e y (hv y hy)⟩
    rcases h1 with h1 | h1
    · omega
    · rcases h3 with h3 | h3
      · exact absurd h1 h3
      · omega
/-- append(nil, l...) of strings. -/
theorem run_append_strs {P : Program} {S : Nat → Prop} (w : World) {t ty e : TypeId} {i : TypeInfo} {v : Value} {ns : List ByteArray} (ht : P.underlying t = some (.slice e)) (hi : P.info? e = some i) (hz : i.zero = some (.string ⟨#[]⟩)) (hs : i.size = 1) (hb : i.bytes = 16) (h : StrsIn S w v ns) (hl : ns.length ≤ 1000000) :
    ∃ v' w', (Builtin.append_ #[t, t] ty #[.slice none 0 0, v]).run P w = .ok v' w' ∧ w'.ownsRow w.heap.size e 1 v' ns.length (ns.map Value.string) ∧ w.grownBy w' none := by
  obtain ⟨ao, cap, rfl, h1, h2, h3⟩ := h
  have hnil := World.ownsRow_nil w w.heap.size e 1
  cases ao with
  | none =>
    have : ns = [] := by
      cases ns with
      | nil => rfl
      | cons s t => obtain ⟨_, _, h, _⟩ := h3 0 s rfl; cases h
    subst this
    exact ⟨.slice none 0 0, w, by simp [Builtin.append_, run_underlying ht, sizeOf, typeInfo, hi, Builtin.lenOf, Builtin.firstCells, loadCells, loadCellsFrom], hnil, World.grownBy.refl _ _⟩
  | some a =>
    obtain ⟨v', w', hr, g1, g2, _⟩ := run_append_own_at (P := P) w w.heap.size t ty e i (.string ⟨#[]⟩) 1 16 ht hi hz hs hb rfl (by decide) (.slice none 0 0) 0 [] hnil a ns.length cap (ns.map Value.string) (by simp) (fun j u hu => by
      rw [List.getElem?_map] at hu
      cases hj : ns[j]? with
      | none => rw [hj] at hu; cases hu
      | some s =>
        rw [hj] at hu
        obtain rfl : Value.string s = u := by simpa using hu
        obtain ⟨b, off, e', _, hc, _⟩ := h3 j s hj
        cases e'
        rw [Addr.add_lit]; exact hc) (by intro u hu; obtain ⟨s, _, rfl⟩ := List.mem_map.1 hu; rfl) (by unfold maxLen; omega) (by omega) (Nat.le_refl _)
    exact ⟨v', w', hr, by simpa using g1, g2⟩
/-- At the operation. -/
theorem wpList_append_strs {P : Program} {S : Nat → Prop} (w : World) {ops : Array Oper} {rest : List Oper} {o : Oper} {a : Act} {Q : Exit → Act → World → Prop} (hgd : Region.wanted o (yielded ops a.tmps) = true) (s x : Operand) (t : TypeId)
    (ho : o.op = .call { callee := .builtin .append, args := #[s, x], argTypes := #[t, t] }) (e : TypeId) (i : TypeInfo) (ht : P.underlying t = some (.slice e)) (hi : P.info? e = some i) (hz : i.zero = some (.string ⟨#[]⟩)) (hs : i.size = 1) (hb : i.bytes = 16)
    (hs0 : a.eval s = .slice none 0 0) (v : Value) (ns : List ByteArray) (hx : a.eval x = v) (hv : StrsIn S w v ns) (hl : ns.length ≤ 1000000)
    (h : ∀ v' w', w'.ownsRow w.heap.size e 1 v' ns.length (ns.map Value.string) → w.grownBy w' none → wpList P ops Q rest (a.put o.dst v') w') : wpList P ops Q (o :: rest) a w := by
  refine BigFrame.wpList_want hgd fun K hK => ?_
  obtain ⟨v', w', hr, h2, h3⟩ := run_append_strs (P := P) (ty := o.type) w ht hi hz hs hb hv hl
  unfold Oper.wp execOp
  simp only [ho, resolve, invoke, builtin, Sem.run_bind, Sem.run_pure, Result.andThen_ok, List.map_toArray, List.map_cons, List.map_nil, hs0, hx, hr]
  exact hK _ _ (h v' w' h2 h3)
/-- Block b holds cells that nothing shares. -/
def PlainB (w : World) (b : Nat) : Prop := ∃ cs T, w.heap[b]? = some (.cells cs T (0, 0))
/-- A block from base on that holds cells which nothing shares. -/
def Fr (base : Nat) (w : World) (b : Nat) : Prop := base ≤ b ∧ b < w.heap.size ∧ PlainB w b
theorem Fr.move {base base' : Nat} {w w' : World} {b : Nat} (h : Fr base w b) (e : w'.heap[b]? = w.heap[b]?) (hb : base' ≤ base) (hs : w.heap.size ≤ w'.heap.size) : Fr base' w' b := by
  obtain ⟨h1, h2, cs, T, h3⟩ := h
  exact ⟨by omega, by omega, cs, T, e.trans h3⟩
theorem StrsIn.and {S S' : Nat → Prop} {w : World} {v : Value} {ns : List ByteArray} (h : StrsIn S w v ns) (k : StrsIn S' w v ns) : StrsIn (fun b => S b ∧ S' b) w v ns := by
  obtain ⟨ao, cap, e, h1, h2, h3⟩ := h
  obtain ⟨ao', cap', e', k1, k2, k3⟩ := k
  rw [e] at e'
  cases e'
  refine ⟨ao, cap, e, h1, h2, fun j s hj => ?_⟩
  obtain ⟨b, off, eq, hS, hc, hs⟩ := h3 j s hj
  obtain ⟨b', off', eq', kS, _, _⟩ := k3 j s hj
  rw [eq] at eq'
  cases eq'
  exact ⟨b, off, eq, ⟨hS, kS⟩, hc, hs⟩
theorem NodeIn.and {S S' : Nat → Prop} {w : World} : ∀ {d : Nat} {cs : List Value} {x : ND}, NodeIn d S w cs x → NodeIn d S' w cs x → NodeIn d (fun b => S b ∧ S' b) w cs x
  | 0, _, _, h, _ => h.elim
  | d + 1, cs, x, h, k => by
    obtain ⟨vn, vi, e, ht, hn, hi⟩ := h
    obtain ⟨vn', vi', e', _, kn, ki⟩ := k
    rw [e] at e'
    simp only [List.cons.injEq, and_true, true_and] at e'
    obtain ⟨rfl, rfl⟩ := e'
    refine ⟨vn, vi, e, ht, hn.and kn, ?_⟩
    obtain ⟨ao, cap, e, h1, h2, h3⟩ := hi
    obtain ⟨ao', cap', e', k1, k2, k3⟩ := ki
    rw [e] at e'
    cases e'
    refine ⟨ao, cap, e, h1, h2, fun j y hj => ?_⟩
    obtain ⟨b, off, cs1, eq, hS, hc, hr⟩ := h3 j y hj
    obtain ⟨b', off', cs2, eq', kS, kc, kr⟩ := k3 j y hj
    rw [eq] at eq'
    cases eq'
    have hcs : cs1 = cs2 := by
      apply List.ext_getElem?
      intro f
      have l1 := hr.len
      have l2 := kr.len
      rcases Nat.lt_or_ge f 6 with hf | hf
      · have a1 := hc f _ (List.getElem?_eq_getElem (by omega))
        have a2 := kc f _ (List.getElem?_eq_getElem (by omega))
        rw [a1] at a2
        rw [List.getElem?_eq_getElem (by omega), List.getElem?_eq_getElem (by omega)]
        exact a2
      · rw [List.getElem?_eq_none (by omega), List.getElem?_eq_none (by omega)]
    subst hcs
    exact ⟨b, off, cs1, eq, ⟨hS, kS⟩, hc, NodeIn.and hr kr⟩
theorem SRow.fr {TS : TypeId} {base : Nat} {w : World} {v : Value} {ns : List ByteArray} (h : SRow TS base w v ns) : StrsIn (Fr base w) w v ns := by
  obtain ⟨h1, h2⟩ := h
  rcases h1.2 with ⟨rfl, h0⟩ | ⟨g, cap, cur, rfl, hb, hg, hnc, hcm, hcs, hcu⟩
  · have hn : ns = [] := List.length_eq_zero_iff.1 h0
    subst hn
    exact StrsIn.nil _ _
  · refine ⟨_, cap, rfl, hnc, hcm, fun j s hj => ⟨g, 0, rfl, ⟨hb, lt_of_block hg, _, _, hg⟩, ?_, h2 s (List.mem_of_getElem? hj)⟩⟩
    have := h1.cells (g := g) rfl j (.string s) (by rw [List.getElem?_map, hj]; rfl)
    rw [Addr.add_lit] at this; exact this
theorem NRow.fr {TN : TypeId} {d base : Nat} {X : Option Nat} {w : World} {v : Value} {A : List NC} (h : NRow TN d base X w v A) (hp : ∀ x, x ∈ A → NodeIn d (PlainB w) w x.1 x.2) : NodesIn (NodeIn d (Fr base w) w) (Fr base w) w v (nodesOf A) := by
  obtain ⟨h1, h0, h2⟩ := h
  have hl : (nodesOf A).length = A.length := by simp [nodesOf]
  have h6 : ∀ y, y ∈ A → y.1.length = 6 := fun y hy => (h2 y hy).len
  rcases h1.2 with ⟨rfl, hA0⟩ | ⟨g, cap, cur, rfl, hb, hg, hnc, hcm, hcs, hcu⟩
  · have hn : A = [] := List.length_eq_zero_iff.1 hA0
    subst hn
    exact NodesIn.nil _ _ _
  · refine ⟨_, cap, by rw [hl], by omega, hcm, fun j x hj => ?_⟩
    have hj' : j < A.length := by
      rcases Nat.lt_or_ge j A.length with h' | h'
      · exact h'
      · rw [List.getElem?_eq_none (by omega)] at hj; cases hj
    have e : A[j]? = some (A[j].1, A[j].2) := by rw [List.getElem?_eq_getElem hj']
    have hx : x = A[j].2 := by
      rw [nodesOf, List.getElem?_map, e] at hj
      exact (Option.some.inj hj).symm
    subst hx
    refine ⟨g, 0, A[j].1, rfl, ⟨hb, lt_of_block hg, _, _, hg⟩, fun f u hu => ?_, ((h2 _ (List.getElem_mem hj')).and (hp _ (List.getElem_mem hj'))).mono fun b hb => ⟨hb.1.1, hb.1.2.1, hb.2⟩⟩
    have := h1.cells (g := g) rfl _ _ (nCells_at h6 e f u hu)
    rw [Addr.add_lit, ← Nat.add_assoc] at this; exact this
theorem below_of_grown {w w' : World} (h : w.grownBy w' none) : Below w.heap.size w w' := ⟨h.os, h.tape, h.output, h.size, fun i hi => h.block i hi (by simp)⟩
/-- Strings that have been copied. -/
def StrsNew (w : World) (ns : List ByteArray) (e : Ending) (w' : World) : Prop := ∃ v, e = .returned v ∧ StrsIn (Fr w.heap.size w') w' v ns ∧ v.oneCell' = true ∧ Below w.heap.size w w' ∧ SRow 9 w.heap.size w' v ns
theorem StrsIn.one {S : Nat → Prop} {w : World} {v : Value} {ns : List ByteArray} (h : StrsIn S w v ns) : v.oneCell' = true := by
  obtain ⟨a, c, rfl, _⟩ := h; rfl
theorem NodesIn.one {R : List Value → ND → Prop} {S : Nat → Prop} {w : World} {v : Value} {its : List ND} (h : NodesIn R S w v its) : v.oneCell' = true := by
  obtain ⟨a, c, rfl, _⟩ := h; rfl
theorem StrsIn.sizes {S : Nat → Prop} {w : World} {v : Value} {ns : List ByteArray} (h : StrsIn S w v ns) : ∀ s, s ∈ ns → s.size ≤ maxLen - 2 := by
  intro s hs
  obtain ⟨j, hj, rfl⟩ := List.getElem_of_mem hs
  obtain ⟨a, c, _, _, _, h⟩ := h
  obtain ⟨_, _, _, _, _, h⟩ := h j _ (List.getElem?_eq_getElem hj)
  exact h
/-- A node that has been copied. -/
def NodeNew (d : Nat) (w : World) (x : ND) (e : Ending) (w' : World) : Prop := ∃ cs, e = .returned (.agg cs.toArray) ∧ NodeIn d (Fr w.heap.size w') w' cs x ∧ Below w.heap.size w w'
/-- A list of nodes that has been copied. -/
def ItemsNew (d : Nat) (w : World) (its : List ND) (e : Ending) (w' : World) : Prop := ∃ v, e = .returned v ∧ NodesIn (NodeIn d (Fr w.heap.size w') w') (Fr w.heap.size w') w' v its ∧ Below w.heap.size w w'
theorem take_snocN {its : List ND} {j : Nat} {x : ND} (h : its[j]? = some x) : its.take (j + 1) = its.take j ++ [x] := by rw [List.take_add_one, h]; rfl
theorem lt_of_some {α : Type} {l : List α} {j : Nat} {x : α} (h : l[j]? = some x) : j < l.length := by
  rcases Nat.lt_or_ge j l.length with h' | h'
  · exact h'
  · rw [List.getElem?_eq_none h'] at h; cases h
theorem NodeIn.slices {d : Nat} {S : Nat → Prop} {w : World} {cs : List Value} {x : ND} (h : NodeIn d S w cs x) : ∃ a1 l1 c1 a2 l2 c2, cs = [.int .i64 x.kind, .bool x.bool, .int .i64 x.num, .string x.text, .slice a1 l1 c1, .slice a2 l2 c2] := by
  cases d with
  | zero => exact h.elim
  | succ d =>
    obtain ⟨va, vb, rfl, _, ⟨a1, c1, rfl, _⟩, ⟨a2, c2, rfl, _⟩⟩ := h
    exact ⟨_, _, _, _, _, _, rfl⟩
/-- The six cells of an element. -/
theorem NodesIn.at {d : Nat} {S : Nat → Prop} {w : World} {ao : Option Addr} {l cap : Nat} {its : List ND} (h : NodesIn (NodeIn d S w) S w (.slice ao l cap) its) {j : Nat} (hj : j < its.length) :
    l = its.length ∧ l ≤ cap ∧ cap ≤ maxLen ∧ ∃ b off x a1 l1 c1 a2 l2 c2, ao = some ⟨b, off, none⟩ ∧ S b ∧ its[j]? = some x ∧ NodeIn d S w [.int .i64 x.kind, .bool x.bool, .int .i64 x.num, .string x.text, .slice a1 l1 c1, .slice a2 l2 c2] x ∧
      w.cell? ⟨b, off + j * 6, none⟩ = some (.int .i64 x.kind) ∧ w.cell? ⟨b, off + j * 6 + 1, none⟩ = some (.bool x.bool) ∧ w.cell? ⟨b, off + j * 6 + 2, none⟩ = some (.int .i64 x.num) ∧ w.cell? ⟨b, off + j * 6 + 3, none⟩ = some (.string x.text) ∧ w.cell? ⟨b, off + j * 6 + 4, none⟩ = some (.slice a1 l1 c1) ∧ w.cell? ⟨b, off + j * 6 + 5, none⟩ = some (.slice a2 l2 c2) := by
  obtain ⟨ao', cap', e, h1, h2, h3⟩ := h
  cases e
  obtain ⟨b, off, cs, rfl, hS, hc, hr⟩ := h3 j _ (List.getElem?_eq_getElem hj)
  obtain ⟨a1, l1, c1, a2, l2, c2, rfl⟩ := hr.slices
  exact ⟨rfl, h1, h2, b, off, its[j], a1, l1, c1, a2, l2, c2, rfl, hS, List.getElem?_eq_getElem hj, hr, hc 0 _ rfl, hc 1 _ rfl, hc 2 _ rfl, hc 3 _ rfl, hc 4 _ rfl, hc 5 _ rfl⟩
theorem Below.grown {w w' : World} (hb : Below w.heap.size w w') : w.grownBy w' none := ⟨hb.os, hb.tape, hb.output, hb.size, fun i hi _ => hb.block i hi⟩
theorem NRow.plain {TN : TypeId} {d base : Nat} {X : Option Nat} {w w' : World} {v : Value} {A : List NC} {row : Option Nat} (h : NRow TN d base X w v A) (hp : ∀ x, x ∈ A → NodeIn d (PlainB w) w x.1 x.2) (hg : w.grownBy w' row) (hr : ∀ r, row = some r → r < base ∨ v.ownBlock = some r) : ∀ x, x ∈ A → NodeIn d (PlainB w') w' x.1 x.2 := by
  intro x hx
  have e : ∀ b, (base ≤ b ∧ b < w.heap.size ∧ v.ownBlock ≠ some b ∧ X ≠ some b) → w'.heap[b]? = w.heap[b]? := fun b hb => hg.block b hb.2.1 fun e => by
    rcases hr b e.symm with hr | hr
    · omega
    · exact hb.2.2.1 hr
  exact ((((h.2.2 x hx).and (hp x hx)).same (w' := w') fun b hb => e b hb.1)).mono fun b hb => by
    obtain ⟨cs, T, hh⟩ := hb.2
    exact ⟨cs, T, (e b hb.1).trans hh⟩
end Go.Proofs.YtdppdonaojdceaaDoor
