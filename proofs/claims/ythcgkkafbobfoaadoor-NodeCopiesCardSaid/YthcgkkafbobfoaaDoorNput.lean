/- Put, where the map that results is valid. -/
import Derived.Test.YthcgkkafbobfoaaDoorNix
import Derived.Test.YthcgkkafbobfoaaDoorNvw
import Derived.Test.YthcgkkafbobfoaaDoorPlan
import Derived.Deep.AppendLies
namespace Go.Proofs.YthcgkkafbobfoaaDoor
open Go Go.ChangeShapes Go.WideShapes Go.ChangeAt Go.RowKit
set_option linter.unusedVariables false
set_option linter.unusedSimpArgs false

/-- Six cells of a row of nodes are replaced. -/
theorem nCells_set : ∀ (A : List NC) (i : Nat) (a b c d e f : Value) (x : ND), (∀ y, y ∈ A → y.1.length = 6) → i < A.length → ((((((nCells A).set (i * 6) a).set (i * 6 + 1) b).set (i * 6 + 2) c).set (i * 6 + 3) d).set (i * 6 + 4) e).set (i * 6 + 5) f = nCells (A.set i ([a, b, c, d, e, f], x))
  | [], i, _, _, _, _, _, _, _, _, h => by simp at h
  | y :: t, 0, a, b, c, d, e, f, x, h6, h => by
    obtain ⟨a', b', c', d', e', f', hy⟩ : ∃ a b c d e f, y.1 = [a, b, c, d, e, f] := by
      have := h6 y (by simp)
      match hq : y.1, this with
      | [a, b, c, d, e, f], _ => exact ⟨_, _, _, _, _, _, rfl⟩
    simp [nCells, hy]
  | y :: t, i + 1, a, b, c, d, e, f, x, h6, h => by
    have ih := nCells_set t i a b c d e f x (fun z hz => h6 z (by simp [hz])) (by simpa using h)
    have hy := h6 y (by simp)
    have e1 : nCells (y :: t) = y.1 ++ nCells t := by simp [nCells]
    have e2 : nCells ((y :: t).set (i + 1) ([a, b, c, d, e, f], x)) = y.1 ++ nCells (t.set i ([a, b, c, d, e, f], x)) := by simp [nCells]
    rw [e1, e2, ← ih]
    rw [show (i + 1) * 6 = i * 6 + 6 by omega]
    rw [List.set_append_right _ _ (by omega), List.set_append_right _ _ (by omega), List.set_append_right _ _ (by omega), List.set_append_right _ _ (by omega), List.set_append_right _ _ (by omega), List.set_append_right _ _ (by omega), hy]
    congr 1
theorem nodesOf_set (A : List NC) (i : Nat) (cs : List Value) (x : ND) : nodesOf (A.set i (cs, x)) = (nodesOf A).set i x := by simp [nodesOf, List.map_set]
/-- Six stores into an own row. -/
theorem owns_six {w : World} {base : Nat} {e : TypeId} {g n cap : Nat} {xs : List Value} (h : w.ownsRow base e 6 (.slice (some ⟨g, 0, none⟩) n cap) n xs) (i : Nat) (a b c d e' f : Value) :
    ((((((w.setCell ⟨g, i * 6, none⟩ a).setCell ⟨g, i * 6 + 1, none⟩ b).setCell ⟨g, i * 6 + 2, none⟩ c).setCell ⟨g, i * 6 + 3, none⟩ d).setCell ⟨g, i * 6 + 4, none⟩ e').setCell ⟨g, i * 6 + 5, none⟩ f).ownsRow base e 6 (.slice (some ⟨g, 0, none⟩) n cap) n ((((((xs.set (i * 6) a).set (i * 6 + 1) b).set (i * 6 + 2) c).set (i * 6 + 3) d).set (i * 6 + 4) e').set (i * 6 + 5) f) :=
  ((((((h.stored (i * 6) a).1.stored (i * 6 + 1) b).1.stored (i * 6 + 2) c).1.stored (i * 6 + 3) d).1.stored (i * 6 + 4) e').1.stored (i * 6 + 5) f).1
theorem six_stores (w : World) (g o : Nat) (a b c d e f : Value) : w.grownBy ((((((w.setCell ⟨g, o, none⟩ a).setCell ⟨g, o + 1, none⟩ b).setCell ⟨g, o + 2, none⟩ c).setCell ⟨g, o + 3, none⟩ d).setCell ⟨g, o + 4, none⟩ e).setCell ⟨g, o + 5, none⟩ f) (some g) :=
  gtrans (gtrans (gtrans (gtrans (gtrans (grown_set w g o a) (grown_set _ g (o + 1) b)) (grown_set _ g (o + 2) c)) (grown_set _ g (o + 3) d)) (grown_set _ g (o + 4) e)) (grown_set _ g (o + 5) f)
/-- The map that Put builds: the node's block gb, its two rows; the items lead to old blocks. -/
structure PSt (TN TS : TypeId) (d : Nat) (S : Nat → Prop) (w wx : World) (gb : Nat) (cv : List Value) (vn vi : Value) (ns : List ByteArray) (A : List NC) : Prop where
  res : wx.heap[w.heap.size + 2]? = some (.cells #[.int .i64 0, .bool false, .int .i64 0, .string ⟨#[]⟩, .slice none 0 0, .slice none 0 0] TN (0, 0))
  val : wx.heap[w.heap.size + 1]? = some (.cells cv.toArray TN (0, 0))
  nod : wx.heap[gb]? = some (.cells #[.int .i64 5, .bool false, .int .i64 0, .string ⟨#[]⟩, vn, vi] TN (0, 0))
  lo : w.heap.size + 3 ≤ gb
  names : SRow TS (w.heap.size + 3) wx vn ns
  items : wx.ownsRow (w.heap.size + 3) TN 6 vi A.length (nCells A)
  s1 : vn.ownBlock ≠ some gb
  s2 : vi.ownBlock ≠ some gb
  s3 : ∀ b, vn.ownBlock = some b → vi.ownBlock ≠ some b
  old : ∀ y, y ∈ A → NodeIn d S wx y.1 y.2
  bel : Below w.heap.size w wx
section
variable {TN TS : TypeId} {d : Nat} {S : Nat → Prop} {w wx wn : World} {gb : Nat} {cv : List Value} {vn vi : Value} {ns : List ByteArray} {A : List NC}
/-- Nothing that was there is written. -/
theorem PSt.below (h : PSt TN TS d S w wx gb cv vn vi ns A) (hb : Below wx.heap.size wx wn) (hS : ∀ b, S b → b < w.heap.size) : PSt TN TS d S w wn gb cv vn vi ns A := by
  have hk : ∀ {b : Nat} {o : Obj}, wx.heap[b]? = some o → wn.heap[b]? = some o := fun h => (hb.block _ (lt_of_block h)).trans h
  exact ⟨hk h.res, hk h.val, hk h.nod, h.lo, h.names.below hb, owns_below h.items hb, h.s1, h.s2, h.s3, fun y hy => (h.old y hy).same fun b hb' => hb.block b (Nat.lt_of_lt_of_le (hS b hb') h.bel.size), h.bel.trans (hb.mono h.bel.size)⟩
theorem PSt.forms (h : PSt TN TS d S w wx gb cv vn vi ns A) : (∃ an cn, vn = .slice an ns.length cn) ∧ ∃ ai ci, vi = .slice ai A.length ci := by
  constructor
  · obtain ⟨a, c, e, _⟩ := h.names.strs; exact ⟨a, c, e⟩
  · rcases h.items.2 with ⟨rfl, h0⟩ | ⟨g, cap, cur, rfl, _⟩
    · exact ⟨none, 0, by rw [h0]⟩
    · exact ⟨_, cap, rfl⟩
/-- What the walk reads of it: a node, in blocks of whatever age. -/
theorem PSt.node (h : PSt TN TS d S w wx gb cv vn vi ns A) (hS : ∀ b, S b → b < w.heap.size) : NodeIn (d + 1) (fun b => b < wx.heap.size) wx [.int .i64 5, .bool false, .int .i64 0, .string ⟨#[]⟩, vn, vi] (.mk 5 false 0 ⟨#[]⟩ ns (nodesOf A)) := by
  refine ⟨vn, vi, rfl, Nat.zero_le _, h.names.strs.mono fun b hb => hb.2, ?_⟩
  have hl : (nodesOf A).length = A.length := by simp [nodesOf]
  have h6 : ∀ y, y ∈ A → y.1.length = 6 := fun y hy => (h.old y hy).len
  have h1 := h.items
  rcases h1.2 with ⟨rfl, hA0⟩ | ⟨g, cap, cur, rfl, hb, hg, hnc, hcm, hcs, hcu⟩
  · have hn : A = [] := List.length_eq_zero_iff.1 hA0
    subst hn
    exact NodesIn.nil _ _ _
  · refine ⟨_, cap, by rw [show (ND.mk 5 false 0 ⟨#[]⟩ ns (nodesOf A)).items = nodesOf A from rfl, hl], by rw [show (ND.mk 5 false 0 ⟨#[]⟩ ns (nodesOf A)).items = nodesOf A from rfl, hl]; exact hnc, hcm, fun j x hj => ?_⟩
    have hj2 : (nodesOf A)[j]? = some x := hj
    have hj' : j < A.length := by have := lt_of_some hj2; omega
    have e : A[j]? = some (A[j].1, A[j].2) := by rw [List.getElem?_eq_getElem hj']
    have hx : x = A[j].2 := by
      rw [nodesOf, List.getElem?_map, e] at hj2
      exact (Option.some.inj hj2).symm
    subst hx
    refine ⟨g, 0, A[j].1, rfl, lt_of_block hg, fun f u hu => ?_, (h.old _ (List.getElem_mem hj')).mono fun b hb => Nat.lt_of_lt_of_le (hS b hb) h.bel.size⟩
    have := h1.cells (g := g) rfl _ _ (nCells_at h6 e f u hu)
    rw [Addr.add_lit, ← Nat.add_assoc] at this; exact this
/-- One name more. -/
theorem PSt.name {vn' : Value} {s : ByteArray} (h : PSt TN TS d S w wx gb cv vn vi ns A) (hS : ∀ b, S b → b < w.heap.size) (hown : wn.ownsRow (w.heap.size + 3) TS 1 vn' (ns.length + 1) (ns.map Value.string ++ [.string s])) (hg : wx.grownBy wn vn.ownBlock) (hat : vn'.ownBlock = vn.ownBlock ∨ ∀ b, vn'.ownBlock = some b → wx.heap.size ≤ b) (hs : s.size ≤ maxLen - 2) :
    PSt TN TS d S w (wn.setCell ⟨gb, 4, none⟩ vn') gb cv vn' vi (ns ++ [s]) A := by
  have hgb := lt_of_block h.nod
  have hlo := h.lo
  have hne : ∀ i, i ≠ gb → (wn.setCell ⟨gb, 4, none⟩ vn').heap[i]? = wn.heap[i]? := fun i hi => heap_setCell_other wn ⟨gb, 4, none⟩ i _ hi
  have hsz : (wn.setCell ⟨gb, 4, none⟩ vn').heap.size = wn.heap.size := by simp
  have hgs := grown_set wn gb 4 vn'
  have hold : ∀ j, j < w.heap.size + 3 → j < wx.heap.size → wn.heap[j]? = wx.heap[j]? := fun j hj hl => hg.block j hl fun e => by have := (h.names.1.lt j e.symm).1; omega
  have hrs := lt_of_block h.res
  have hn1 : vn'.ownBlock ≠ some gb := fun e => by
    rcases hat with ha | ha
    · rw [ha] at e; exact h.s1 e
    · have := ha gb e; omega
  refine ⟨(hne _ (by omega)).trans ((hold _ (by omega) hrs).trans h.res), (hne _ (by omega)).trans ((hold _ (by omega) (lt_of_block h.val)).trans h.val), six_set4 ((hg.block gb hgb (fun e => h.s1 e.symm)).trans h.nod) vn', hlo, ?_, ?_, hn1, h.s2, ?_, ?_, ?_⟩
  · exact (h.names.push hown hs).kept hgs (.inr fun e => hn1 e)
  · refine (h.items.kept hg ?_).kept hgs (.inr fun e => h.s2 e)
    cases e2 : vi.ownBlock with
    | none => exact .inl rfl
    | some b2 => exact .inr fun e3 => h.s3 b2 e3.symm e2
  · intro b hb e
    rcases hat with ha | ha
    · rw [ha] at hb; exact h.s3 b hb e
    · have := ha b hb
      have := (h.items.lt b e).2
      omega
  · intro y hy
    refine (h.old y hy).same fun b hb => (hne b (by have := hS b hb; omega)).trans (hold b (by have := hS b hb; omega) (Nat.lt_of_lt_of_le (hS b hb) h.bel.size))
  · have hb := h.bel
    exact ⟨hg.os.trans hb.os, hg.tape.trans hb.tape, hg.output.trans hb.output, by rw [hsz]; exact Nat.le_trans hb.size hg.size, fun i hi => (hne i (by omega)).trans ((hold i (by omega) (Nat.lt_of_lt_of_le hi hb.size)).trans (hb.block i hi))⟩
/-- One item more. -/
theorem PSt.item {vi' : Value} {cs : List Value} {y : ND} (h : PSt TN TS d S w wx gb cv vn vi ns A) (hS : ∀ b, S b → b < w.heap.size) (hown : wn.ownsRow (w.heap.size + 3) TN 6 vi' (A.length + 1) (nCells A ++ cs)) (hg : wx.grownBy wn vi.ownBlock) (hat : vi'.ownBlock = vi.ownBlock ∨ ∀ b, vi'.ownBlock = some b → wx.heap.size ≤ b) (hy : NodeIn d S wx cs y) :
    PSt TN TS d S w (wn.setCell ⟨gb, 5, none⟩ vi') gb cv vn vi' ns (A ++ [(cs, y)]) := by
  have hgb := lt_of_block h.nod
  have hlo := h.lo
  have hne : ∀ i, i ≠ gb → (wn.setCell ⟨gb, 5, none⟩ vi').heap[i]? = wn.heap[i]? := fun i hi => heap_setCell_other wn ⟨gb, 5, none⟩ i _ hi
  have hsz : (wn.setCell ⟨gb, 5, none⟩ vi').heap.size = wn.heap.size := by simp
  have hgs := grown_set wn gb 5 vi'
  have hold : ∀ j, j < w.heap.size + 3 → j < wx.heap.size → wn.heap[j]? = wx.heap[j]? := fun j hj hl => hg.block j hl fun e => by have := (h.items.lt j e.symm).1; omega
  have hrs := lt_of_block h.res
  have hn1 : vi'.ownBlock ≠ some gb := fun e => by
    rcases hat with ha | ha
    · rw [ha] at e; exact h.s2 e
    · have := ha gb e; omega
  have hoy : ∀ {cs : List Value} {x : ND}, NodeIn d S wx cs x → NodeIn d S (wn.setCell ⟨gb, 5, none⟩ vi') cs x := fun q => q.same fun b hb => (hne b (by have := hS b hb; omega)).trans (hold b (by have := hS b hb; omega) (Nat.lt_of_lt_of_le (hS b hb) h.bel.size))
  refine ⟨(hne _ (by omega)).trans ((hold _ (by omega) hrs).trans h.res), (hne _ (by omega)).trans ((hold _ (by omega) (lt_of_block h.val)).trans h.val), six_set5 ((hg.block gb hgb (fun e => h.s2 e.symm)).trans h.nod) vi', hlo, ?_, ?_, h.s1, hn1, ?_, ?_, ?_⟩
  · refine (h.names.kept hg ?_).kept hgs (.inr fun e => h.s1 e)
    cases e2 : vn.ownBlock with
    | none => exact .inl rfl
    | some b2 => exact .inr fun e3 => h.s3 b2 e2 e3.symm
  · refine World.ownsRow.kept ?_ hgs (.inr fun e => hn1 e)
    rw [List.length_append, nCells_append]
    simpa [nCells] using hown
  · intro b hb e
    rcases hat with ha | ha
    · rw [ha] at e; exact h.s3 b hb e
    · have := ha b e
      have := (h.names.1.lt b hb).2
      omega
  · intro z hz
    rcases List.mem_append.1 hz with hz | hz
    · exact hoy (h.old z hz)
    · cases List.mem_singleton.1 hz; exact hoy hy
  · have hb := h.bel
    exact ⟨hg.os.trans hb.os, hg.tape.trans hb.tape, hg.output.trans hb.output, by rw [hsz]; exact Nat.le_trans hb.size hg.size, fun i hi => (hne i (by omega)).trans ((hold i (by omega) (Nat.lt_of_lt_of_le hi hb.size)).trans (hb.block i hi))⟩
/-- An item is replaced. -/
theorem PSt.set {g cap i : Nat} {a b c dd e f : Value} {y : ND} (h : PSt TN TS d S w wx gb cv vn (.slice (some ⟨g, 0, none⟩) A.length cap) ns A) (hS : ∀ b, S b → b < w.heap.size) (hi : i < A.length) (hy : NodeIn d S wx [a, b, c, dd, e, f] y) :
    PSt TN TS d S w ((((((wx.setCell ⟨g, i * 6, none⟩ a).setCell ⟨g, i * 6 + 1, none⟩ b).setCell ⟨g, i * 6 + 2, none⟩ c).setCell ⟨g, i * 6 + 3, none⟩ dd).setCell ⟨g, i * 6 + 4, none⟩ e).setCell ⟨g, i * 6 + 5, none⟩ f) gb cv vn (.slice (some ⟨g, 0, none⟩) A.length cap) ns (A.set i ([a, b, c, dd, e, f], y)) := by
  have hg := six_stores wx g (i * 6) a b c dd e f
  have hrow := owns_six h.items i a b c dd e f
  have h6 : ∀ y, y ∈ A → y.1.length = 6 := fun y hy => (h.old y hy).len
  rw [nCells_set A i a b c dd e f y h6 hi] at hrow
  have hlo := h.lo
  have hgl := (h.items.lt g rfl)
  have hgne : g ≠ gb := fun e => h.s2 (by rw [e]; rfl)
  have hk : ∀ {b : Nat} {o : Obj}, b ≠ g → wx.heap[b]? = some o → _ := fun {b o} hb hh => (hg.block b (lt_of_block hh) (by intro e; exact hb (Option.some.inj e))).trans hh
  have hoy : ∀ {cs : List Value} {x : ND}, NodeIn d S wx cs x → NodeIn d S _ cs x := fun q => q.same fun b hb => hg.block b (Nat.lt_of_lt_of_le (hS b hb) h.bel.size) (by intro e; have := Option.some.inj e; have := hS b hb; omega)
  refine ⟨hk (by omega) h.res, hk (by omega) h.val, hk (fun e => hgne e.symm) h.nod, hlo, h.names.kept hg ?_, by rw [List.length_set]; exact hrow, h.s1, h.s2, h.s3, ?_, ?_⟩
  · cases e2 : vn.ownBlock with
    | none => exact .inl rfl
    | some b2 => exact .inr fun e3 => h.s3 b2 e2 (show (Value.slice (some ⟨g, 0, none⟩) A.length cap).ownBlock = some b2 from e3.symm)
  · intro z hz
    rcases List.mem_or_eq_of_mem_set hz with hz | rfl
    · exact hoy (h.old z hz)
    · exact hoy hy
  · have hb := h.bel
    exact ⟨hg.os.trans hb.os, hg.tape.trans hb.tape, hg.output.trans hb.output, Nat.le_trans hb.size hg.size, fun i hi => (hg.block i (Nat.lt_of_lt_of_le hi hb.size) (by intro e; have := Option.some.inj e; omega)).trans (hb.block i hi)⟩
end
theorem SRow.base {TS : TypeId} {b b' : Nat} {w : World} {v : Value} {ns : List ByteArray} (h : SRow TS b w v ns) (hb : b' ≤ b) : SRow TS b' w v ns := by
  obtain ⟨⟨h1, h2 | ⟨g, cap, cur, hv, hg, r⟩⟩, h3⟩ := h
  · exact ⟨⟨h1, .inl h2⟩, h3⟩
  · exact ⟨⟨h1, .inr ⟨g, cap, cur, hv, by omega, r⟩⟩, h3⟩
theorem _root_.Go.World.ownsRow.base {b b' : Nat} {w : World} {e : TypeId} {size n : Nat} {v : Value} {xs : List Value} (h : w.ownsRow b e size v n xs) (hb : b' ≤ b) : w.ownsRow b' e size v n xs := by
  obtain ⟨h1, h2 | ⟨g, cap, cur, hv, hg, r⟩⟩ := h
  · exact ⟨h1, .inl h2⟩
  · exact ⟨h1, .inr ⟨g, cap, cur, hv, by omega, r⟩⟩
theorem own_form {w : World} {b : Nat} {e : TypeId} {size n : Nat} {v : Value} {xs : List Value} (h : w.ownsRow b e size v n xs) : ∃ a c, v = .slice a n c := by
  rcases h.2 with ⟨rfl, h0⟩ | ⟨g, cap, cur, rfl, _⟩
  · exact ⟨none, 0, by rw [h0]⟩
  · exact ⟨_, cap, rfl⟩
theorem SRow.ownAt {TS : TypeId} {base : Nat} {w : World} {v : Value} {ns : List ByteArray} (h : SRow TS base w v ns) : StrsIn (fun b => v.ownBlock = some b) w v ns := by
  obtain ⟨h1, h2⟩ := h
  rcases h1.2 with ⟨rfl, h0⟩ | ⟨g, cap, cur, rfl, hb, hg, hnc, hcm, hcs, hcu⟩
  · have hn : ns = [] := List.length_eq_zero_iff.1 h0
    subst hn
    exact StrsIn.nil _ _
  · refine ⟨_, cap, rfl, hnc, hcm, fun j s hj => ⟨g, 0, rfl, rfl, ?_, h2 s (List.mem_of_getElem? hj)⟩⟩
    have := h1.cells (g := g) rfl j (.string s) (by rw [List.getElem?_map, hj]; rfl)
    rw [Addr.add_lit] at this; exact this
/-- What Put hands back where all is valid. -/
def PutNew (d : Nat) (w : World) (y : ND) (e : Ending) (w' : World) : Prop := ∃ vn vi : Value, e = .returned (.tuple #[.agg #[.int .i64 5, .bool false, .int .i64 0, .string ⟨#[]⟩, vn, vi], .int .i64 0]) ∧ NodeIn d (Fr w.heap.size w') w' [.int .i64 5, .bool false, .int .i64 0, .string ⟨#[]⟩, vn, vi] y ∧ Below w.heap.size w w'
set_option maxHeartbeats 3200000 in
set_option maxRecDepth 100000 in
theorem put_any {d : Nat} {S : Nat → Prop} (cs cv : List Value) (x v : ND) (s : ByteArray) (w : World) (h : NodeIn (d + 1) S w cs x) (hv : NodeIn d S w cv v) (hS : ∀ b, S b → b < w.heap.size) (hT : Utab w) (hx : MapOk 7 x) (hvv : validN 7 v = true) (hy : validN 8 (putN x s v) = true) (hs : s.size ≤ 65536) :
    Calls Tryd.prog 15 #[.agg cs.toArray, .string s, .agg cv.toArray] w (PutNew (d + 1) w (putN x s v)) := by
  obtain ⟨a1, l1, c1, a2, l2, c2, rfl⟩ := h.slices
  obtain ⟨a3, l3, c3, a4, l4, c4, rfl⟩ := hv.slices
  have hxv : validN 8 x = true := (mapOk_iff hx.kind).2 hx
  rw [hx.kind, hx.bool, hx.num, hx.text] at h
  rw [hx.kind, hx.bool, hx.num, hx.text]
  obtain ⟨w1, hw1⟩ : ∃ W, W = ((w.alloc (.cells #[.int .i64 5, .bool false, .int .i64 0, .string ⟨#[]⟩, .slice a1 l1 c1, .slice a2 l2 c2] 26)).alloc (.cells #[.int .i64 v.kind, .bool v.bool, .int .i64 v.num, .string v.text, .slice a3 l3 c3, .slice a4 l4 c4] 26)).alloc (.cells #[.int .i64 0, .bool false, .int .i64 0, .string ⟨#[]⟩, .slice none 0 0, .slice none 0 0] 26) := ⟨_, rfl⟩
  have z1 : (w.alloc (.cells #[.int .i64 5, .bool false, .int .i64 0, .string ⟨#[]⟩, .slice a1 l1 c1, .slice a2 l2 c2] 26)).heap.size = w.heap.size + 1 := by simp
  have z2 : ((w.alloc (.cells #[.int .i64 5, .bool false, .int .i64 0, .string ⟨#[]⟩, .slice a1 l1 c1, .slice a2 l2 c2] 26)).alloc (.cells #[.int .i64 v.kind, .bool v.bool, .int .i64 v.num, .string v.text, .slice a3 l3 c3, .slice a4 l4 c4] 26)).heap.size = w.heap.size + 2 := by simp
  have b1 : Below w.heap.size w w1 := by rw [hw1]; exact (((Below.refl _ _).alloc (Nat.le_refl _) _).alloc (by simp) _).alloc (by simp; omega) _
  have k0 : w1.heap[w.heap.size]? = some (.cells #[.int .i64 5, .bool false, .int .i64 0, .string ⟨#[]⟩, .slice a1 l1 c1, .slice a2 l2 c2] 26 (0, 0)) := by rw [hw1]; exact (Below.heap_alloc _ _ _ (by omega)).trans ((Below.heap_alloc _ _ _ (by omega)).trans (heap_alloc_new _ _))
  have k1 : w1.heap[w.heap.size + 1]? = some (.cells #[.int .i64 v.kind, .bool v.bool, .int .i64 v.num, .string v.text, .slice a3 l3 c3, .slice a4 l4 c4] 26 (0, 0)) := by
    have := heap_alloc_new (w.alloc (.cells #[.int .i64 5, .bool false, .int .i64 0, .string ⟨#[]⟩, .slice a1 l1 c1, .slice a2 l2 c2] 26)) (.cells #[.int .i64 v.kind, .bool v.bool, .int .i64 v.num, .string v.text, .slice a3 l3 c3, .slice a4 l4 c4] 26)
    rw [z1] at this
    rw [hw1]; exact (Below.heap_alloc _ _ _ (by omega)).trans this
  have k2 : w1.heap[w.heap.size + 2]? = some (.cells #[.int .i64 0, .bool false, .int .i64 0, .string ⟨#[]⟩, .slice none 0 0, .slice none 0 0] 26 (0, 0)) := by
    have := heap_alloc_new ((w.alloc (.cells #[.int .i64 5, .bool false, .int .i64 0, .string ⟨#[]⟩, .slice a1 l1 c1, .slice a2 l2 c2] 26)).alloc (.cells #[.int .i64 v.kind, .bool v.bool, .int .i64 v.num, .string v.text, .slice a3 l3 c3, .slice a4 l4 c4] 26)) (.cells #[.int .i64 0, .bool false, .int .i64 0, .string ⟨#[]⟩, .slice none 0 0, .slice none 0 0] 26)
    rw [z2] at this
    rw [hw1]; exact this
  have z3 : w1.heap.size = w.heap.size + 3 := by rw [hw1]; simp
  have low := lowN_of_valid 8 (d + 1) x hxv
  have V1 := Lib.hid (isvalid_any [.int .i64 5, .bool false, .int .i64 0, .string ⟨#[]⟩, .slice a1 l1 c1, .slice a2 l2 c2] x w1 (h.same fun b hb => b1.block b (hS b hb)) (fun b hb => Nat.lt_of_lt_of_le (hS b hb) b1.size) low (hT.below b1))
  rw [hxv] at V1
  have HS := Lib.hid hS
  have HT := Lib.hid hT
  have HX := Lib.hid hx
  have HY := Lib.hid hy
  have HV := Lib.hid hv
  have HVV := Lib.hid hvv
  have LOW := Lib.hid low
  obtain ⟨vn, vi, e, -, hns, his⟩ := h
  simp only [List.cons.injEq, and_true, true_and] at e
  obtain ⟨-, -, -, -, rfl, rfl⟩ := e
  have HNS := Lib.hid hns
  have HIS := Lib.hid his
  have K0 := Lib.hid k0
  have K1 := Lib.hid k1
  have K2 := Lib.hid k2
  have B1 := Lib.hid b1
  have Z3 := Lib.hid z3
  have HSZ := Lib.hid hs
  have c0 := six_of k0
  clear hns his hS hT hx hy hv hvv low hxv z1 z2 k0 k1 k2 b1 z3 hs
  go_enter Tryd.func15, Tryd.ntmps15
  go_upto_region 1 with fail
  rw [← hw1]
  clear hw1
  go_upto_region 3 with (go_at_call 8; (with_reducible refine (V1.out).mono ?_); rintro e w2 ⟨rfl, hb2⟩)
  have hbd : Below w1.heap.size w1 w2.drew := hb2.drew
  have OLD := Lib.hid (fun (wx : World) (hb : Below w1.heap.size w1 wx) (b : Nat) (hbw : b < w.heap.size) => (hb.block b (by have := Z3.out; omega)).trans (B1.out.block b hbw))
  have CK := Lib.hid (fun (wx : World) (hb : Below w1.heap.size w1 wx) => And.intro (six_of ((hb.block _ (lt_of_block K0.out)).trans K0.out)).2.2.2.2.1 (six_of ((hb.block _ (lt_of_block K0.out)).trans K0.out)).2.2.2.2.2)
  clear hb2 c0
  refine wp_region_plan (fun w' => w'.cell? ⟨w.heap.size, 4, none⟩ = some (.slice a1 l1 c1) ∧ w'.cell? ⟨w.heap.size, 5, none⟩ = some (.slice a2 l2 c2)) [1, 4] (.take 0 (.take 1 (.take 3 (.take 4 (Plan.join true (.ask 2 true (.ask 5 false (.take 6 (.ask 7 false .stop .stop)) (.ask 7 true (.ask 5 false (.take 6 .stop) .stop) .stop)) (.ask 7 true (.ask 2 true (.ask 5 false (.take 6 .stop) .stop) .stop) .stop)) (.ask 8 false .stop .stop)))))) (by kernel_rfl) (by kernel_rfl) (fun _ d _ _ _ h => by cases d <;> exact h) (CK.out _ hbd) ?_
  generalize w2.drew = wd at hbd ⊢
  refine take_any _ ?_ rfl rfl ?_ (fun K hK => ?_); rotate_left; (intro w0; go_simp; (try rfl)); (go_simp; refine hK _ ?_; clear hK K)
  refine take_held _ ?_ rfl rfl (by decide) ?_ (fun K hK => ?_); rotate_left; (intro w0 hw0; go_simp; (try rfl)); (go_simp; refine hK _ ?_; clear hK K)
  refine take_any _ ?_ rfl rfl ?_ (fun K hK => ?_); rotate_left; (intro w0; go_simp; (try rfl)); (go_simp; refine hK _ ?_; clear hK K)
  refine take_held _ ?_ rfl rfl (by decide) ?_ (fun K hK => ?_); rotate_left; (intro w0 hw0; go_simp; (try rfl)); (go_simp; refine hK _ ?_; clear hK K)
  refine plan_cut [8, 21, 24, 25] (fun vs wx => ∃ (gb : Nat) (v1 v2 : Value) (A : List NC), vs = [.pointer (some ⟨gb, 0, none⟩), v1, v2, .agg #[.int .i64 5, .bool false, .int .i64 0, .string ⟨#[]⟩, v1, v2]] ∧ w1.heap.size ≤ gb ∧ wx.heap[gb]? = some (.cells #[.int .i64 0, .bool false, .int .i64 0, .string ⟨#[]⟩, .slice none 0 0, .slice none 0 0] 26 (0, 0)) ∧ SRow 9 w1.heap.size wx v1 x.names ∧ wx.ownsRow w1.heap.size 26 6 v2 A.length (nCells A) ∧ v1.ownBlock ≠ some gb ∧ v2.ownBlock ≠ some gb ∧ (∀ b, v1.ownBlock = some b → v2.ownBlock ≠ some b) ∧ nodesOf A = x.items ∧ (∀ y, y ∈ A → NodeIn d S wx y.1 y.2) ∧ Below w1.heap.size w1 wx) ?_ ?_
  · have CT := Lib.hid (ctexts_any _ _ wd (HNS.out.same fun b hb => OLD.out _ hbd b (HS.out b hb)) LOW.out.1)
    refine ask_step _ rfl ?_ ?_
    rotate_left
    · go_wp2_with (go_at_call 30; (with_reducible refine (CT.out).mono ?_); rintro e W2 ⟨v1, rfl, hvs, hv1o, ⟨hb2', hrow⟩⟩; obtain ⟨a5, c5, rfl⟩ : ∃ a c, v1 = Value.slice a x.names.length c := (by obtain ⟨a, c, e, _⟩ := hrow.strs; exact ⟨a, c, e⟩))
      have B2 := hbd.trans (hb2'.mono hbd.size)
      refine Seg.mk ⟨CK.out _ B2, ?_⟩
      have CI := Lib.hid (clone_any _ _ W2 (HIS.out.same (fun b hb => OLD.out _ B2 b (HS.out b hb)) fun cs y q => q.same fun b hb => OLD.out _ B2 b (HS.out b hb)) LOW.out.2.1)
      refine ask_late _ rfl ?_ ?_
      rotate_left
      · go_wp2_with (go_at_call 31; (with_reducible refine (CI.out).mono ?_); rintro e W5 ⟨v2, A, rfl, hown, hA, hAn, hb5'⟩; obtain ⟨a6, c6, rfl⟩ := own_form hown)
        have B5 := B2.trans (hb5'.mono B2.size)
        refine Seg.mk ?_
        refine take_any _ ?_ rfl rfl ?_ (fun K hK => ?_); rotate_left; (intro w0; go_simp; (try rfl)); (go_simp; refine hK _ ?_; clear hK K)
        have bz := (Below.refl W5.heap.size W5).alloc (o := .cells #[.int .i64 0, .bool false, .int .i64 0, .string ⟨#[]⟩, .slice none 0 0, .slice none 0 0] 26) (Nat.le_refl _)
        have gz := heap_alloc_new W5 (.cells #[.int .i64 0, .bool false, .int .i64 0, .string ⟨#[]⟩, .slice none 0 0, .slice none 0 0] 26)
        refine ask_late _ rfl trivial ?_
        go_wp2_with fail
        generalize hW : W5.alloc (.cells #[.int .i64 0, .bool false, .int .i64 0, .string ⟨#[]⟩, .slice none 0 0, .slice none 0 0] 26) = W7 at bz gz ⊢
        clear hW
        have B7 := B5.trans (bz.mono B5.size)
        refine Seg.mk ?_
        have hz2 : w1.heap.size ≤ wd.heap.size := hbd.size
        have hzg : w1.heap.size ≤ W5.heap.size := B5.size
        have hz5 : w1.heap.size ≤ W2.heap.size := B2.size
        have hROW := ((hrow.below hb5').below bz)
        have hOWN := (owns_below hown bz)
        have hGZ := gz
        have hn1 : ∀ b, (Value.slice a5 x.names.length c5).ownBlock = some b → wd.heap.size ≤ b ∧ b < W2.heap.size := fun b e => hrow.1.lt b e
        have hi1 : ∀ b, (Value.slice a6 A.length c6).ownBlock = some b → W2.heap.size ≤ b ∧ b < W5.heap.size := fun b e => hown.lt b e
        have hgl : W5.heap.size < W7.heap.size := lt_of_block gz
        have f1 := hb2'.size
        have f2 := hb5'.size
        have f3 := bz.size
        exact plan_meet [.pointer (some ⟨W5.heap.size, 0, none⟩), .slice a5 x.names.length c5, .slice a6 A.length c6, .agg #[.int .i64 5, .bool false, .int .i64 0, .string ⟨#[]⟩, .slice a5 x.names.length c5, .slice a6 A.length c6]] ⟨W5.heap.size, _, _, A, rfl, hzg, hGZ, hROW.base hz2, hOWN.base hz5, (fun e => by have := hn1 _ e; omega), (fun e => by have := hi1 _ e; omega), (fun b e e' => by have := hn1 _ e; have := hi1 _ e'; omega), hA, (fun y hy => (hAn y hy).same fun b hb => (OLD.out _ B7 b (HS.out b hb)).trans (OLD.out _ B2 b (HS.out b hb)).symm), B7⟩ rfl
      · have bz := (Below.refl W2.heap.size W2).alloc (o := .cells #[.int .i64 0, .bool false, .int .i64 0, .string ⟨#[]⟩, .slice none 0 0, .slice none 0 0] 26) (Nat.le_refl _)
        have gz := heap_alloc_new W2 (.cells #[.int .i64 0, .bool false, .int .i64 0, .string ⟨#[]⟩, .slice none 0 0, .slice none 0 0] 26)
        refine ask_step _ rfl trivial ?_
        go_wp2_with fail
        generalize hW : W2.alloc (.cells #[.int .i64 0, .bool false, .int .i64 0, .string ⟨#[]⟩, .slice none 0 0, .slice none 0 0] 26) = W7 at bz gz ⊢
        clear hW
        have B7 := B2.trans (bz.mono B2.size)
        refine Seg.mk ⟨CK.out _ B7, ?_⟩
        have CI := Lib.hid (clone_any _ _ W7 (HIS.out.same (fun b hb => OLD.out _ B7 b (HS.out b hb)) fun cs y q => q.same fun b hb => OLD.out _ B7 b (HS.out b hb)) LOW.out.2.1)
        refine ask_late _ rfl trivial ?_
        go_wp2_with (go_at_call 31; (with_reducible refine (CI.out).mono ?_); rintro e W5 ⟨v2, A, rfl, hown, hA, hAn, hb5'⟩; obtain ⟨a6, c6, rfl⟩ := own_form hown)
        have B5 := B7.trans (hb5'.mono B7.size)
        refine Seg.mk ?_
        refine take_any _ ?_ rfl rfl ?_ (fun K hK => ?_); rotate_left; (intro w0; go_simp; (try rfl)); (go_simp; refine hK _ ?_; clear hK K)
        have hz2 : w1.heap.size ≤ wd.heap.size := hbd.size
        have hzg : w1.heap.size ≤ W2.heap.size := B2.size
        have hz5 : w1.heap.size ≤ W7.heap.size := B7.size
        have hROW := ((hrow.below bz).below hb5')
        have hOWN := hown
        have hGZ := ((hb5'.block _ (lt_of_block gz)).trans gz)
        have hn1 : ∀ b, (Value.slice a5 x.names.length c5).ownBlock = some b → wd.heap.size ≤ b ∧ b < W2.heap.size := fun b e => hrow.1.lt b e
        have hi1 : ∀ b, (Value.slice a6 A.length c6).ownBlock = some b → W7.heap.size ≤ b ∧ b < W5.heap.size := fun b e => hown.lt b e
        have hgl : W2.heap.size < W7.heap.size := lt_of_block gz
        have f1 := hb2'.size
        have f2 := bz.size
        have f3 := hb5'.size
        exact plan_meet [.pointer (some ⟨W2.heap.size, 0, none⟩), .slice a5 x.names.length c5, .slice a6 A.length c6, .agg #[.int .i64 5, .bool false, .int .i64 0, .string ⟨#[]⟩, .slice a5 x.names.length c5, .slice a6 A.length c6]] ⟨W2.heap.size, _, _, A, rfl, hzg, hGZ, hROW.base hz2, hOWN.base hz5, (fun e => by have := hn1 _ e; omega), (fun e => by have := hi1 _ e; omega), (fun b e e' => by have := hn1 _ e; have := hi1 _ e'; omega), hA, (fun y hy => (hAn y hy).same fun b hb => (OLD.out _ B5 b (HS.out b hb)).trans (OLD.out _ B7 b (HS.out b hb)).symm), B5⟩ rfl
    · have bz := (Below.refl wd.heap.size wd).alloc (o := .cells #[.int .i64 0, .bool false, .int .i64 0, .string ⟨#[]⟩, .slice none 0 0, .slice none 0 0] 26) (Nat.le_refl _)
      have gz := heap_alloc_new wd (.cells #[.int .i64 0, .bool false, .int .i64 0, .string ⟨#[]⟩, .slice none 0 0, .slice none 0 0] 26)
      refine ask_step _ rfl trivial ?_
      go_wp2_with fail
      generalize hW : wd.alloc (.cells #[.int .i64 0, .bool false, .int .i64 0, .string ⟨#[]⟩, .slice none 0 0, .slice none 0 0] 26) = W7 at bz gz ⊢
      clear hW
      have B7 := hbd.trans (bz.mono hbd.size)
      refine Seg.mk ⟨CK.out _ B7, ?_⟩
      have CT := Lib.hid (ctexts_any _ _ W7 (HNS.out.same fun b hb => OLD.out _ B7 b (HS.out b hb)) LOW.out.1)
      refine ask_step _ rfl trivial ?_
      go_wp2_with (go_at_call 30; (with_reducible refine (CT.out).mono ?_); rintro e W2 ⟨v1, rfl, hvs, hv1o, ⟨hb2', hrow⟩⟩; obtain ⟨a5, c5, rfl⟩ : ∃ a c, v1 = Value.slice a x.names.length c := (by obtain ⟨a, c, e, _⟩ := hrow.strs; exact ⟨a, c, e⟩))
      have B2 := B7.trans (hb2'.mono B7.size)
      refine Seg.mk ⟨CK.out _ B2, ?_⟩
      have CI := Lib.hid (clone_any _ _ W2 (HIS.out.same (fun b hb => OLD.out _ B2 b (HS.out b hb)) fun cs y q => q.same fun b hb => OLD.out _ B2 b (HS.out b hb)) LOW.out.2.1)
      refine ask_late _ rfl trivial ?_
      go_wp2_with (go_at_call 31; (with_reducible refine (CI.out).mono ?_); rintro e W5 ⟨v2, A, rfl, hown, hA, hAn, hb5'⟩; obtain ⟨a6, c6, rfl⟩ := own_form hown)
      have B5 := B2.trans (hb5'.mono B2.size)
      refine Seg.mk ?_
      refine take_any _ ?_ rfl rfl ?_ (fun K hK => ?_); rotate_left; (intro w0; go_simp; (try rfl)); (go_simp; refine hK _ ?_; clear hK K)
      have hz2 : w1.heap.size ≤ W7.heap.size := B7.size
      have hzg : w1.heap.size ≤ wd.heap.size := hbd.size
      have hz5 : w1.heap.size ≤ W2.heap.size := B2.size
      have hROW := (hrow.below hb5')
      have hOWN := hown
      have hGZ := ((hb5'.block _ (lt_of_block ((hb2'.block _ (lt_of_block gz)).trans gz))).trans ((hb2'.block _ (lt_of_block gz)).trans gz))
      have hn1 : ∀ b, (Value.slice a5 x.names.length c5).ownBlock = some b → W7.heap.size ≤ b ∧ b < W2.heap.size := fun b e => hrow.1.lt b e
      have hi1 : ∀ b, (Value.slice a6 A.length c6).ownBlock = some b → W2.heap.size ≤ b ∧ b < W5.heap.size := fun b e => hown.lt b e
      have hgl : wd.heap.size < W7.heap.size := lt_of_block gz
      have f1 := bz.size
      have f2 := hb2'.size
      have f3 := hb5'.size
      exact plan_meet [.pointer (some ⟨wd.heap.size, 0, none⟩), .slice a5 x.names.length c5, .slice a6 A.length c6, .agg #[.int .i64 5, .bool false, .int .i64 0, .string ⟨#[]⟩, .slice a5 x.names.length c5, .slice a6 A.length c6]] ⟨wd.heap.size, _, _, A, rfl, hzg, hGZ, hROW.base hz2, hOWN.base hz5, (fun e => by have := hn1 _ e; omega), (fun e => by have := hi1 _ e; omega), (fun b e e' => by have := hn1 _ e; have := hi1 _ e'; omega), hA, (fun y hy => (hAn y hy).same fun b hb => (OLD.out _ B5 b (HS.out b hb)).trans (OLD.out _ B2 b (HS.out b hb)).symm), B5⟩ rfl
  · rintro vs wx ⟨gb, v1, v2, A, rfl, hgb, hz, hrow, hown, s1, s2, s3, hA, hold, hbx⟩
    simp only [puts, Act.put, List.setIfInBounds_toArray, List.set_cons_zero, List.set_cons_succ]
    obtain ⟨a5, c5, rfl⟩ : ∃ a c, v1 = Value.slice a x.names.length c := by obtain ⟨a, c, e, _⟩ := hrow.strs; exact ⟨a, c, e⟩
    obtain ⟨a6, c6, rfl⟩ := own_form hown
    have hgs := grown_set6 wx gb (.int .i64 5) (.bool false) (.int .i64 0) (.string ⟨#[]⟩) (.slice a5 x.names.length c5) (.slice a6 A.length c6)
    have hz3 := Z3.out
    have hgbl := lt_of_block hz
    have hbo : ∀ b, b < w1.heap.size → (set6 wx gb (.int .i64 5) (.bool false) (.int .i64 0) (.string ⟨#[]⟩) (.slice a5 x.names.length c5) (.slice a6 A.length c6)).heap[b]? = w1.heap[b]? := fun b hb => (hgs.block b (Nat.lt_of_lt_of_le hb hbx.size) (by intro e; have := Option.some.inj e; omega)).trans (hbx.block b hb)
    have hP : PSt 26 9 d S w (set6 wx gb (.int .i64 5) (.bool false) (.int .i64 0) (.string ⟨#[]⟩) (.slice a5 x.names.length c5) (.slice a6 A.length c6)) gb [.int .i64 v.kind, .bool v.bool, .int .i64 v.num, .string v.text, .slice a3 l3 c3, .slice a4 l4 c4] (.slice a5 x.names.length c5) (.slice a6 A.length c6) x.names A :=
      ⟨(hbo _ (by omega)).trans K2.out, (hbo _ (by omega)).trans K1.out, six_put hz _ _ _ _ _ _, by omega, (hz3 ▸ hrow).kept hgs (.inr s1), (hz3 ▸ hown).kept hgs (.inr s2), s1, s2, s3, fun y hy => (hold y hy).same fun b hb => (hbo b (by have := HS.out b hb; omega)).trans (hbx.block b (by have := HS.out b hb; omega)).symm, B1.out.trans ⟨hgs.os.trans hbx.os, hgs.tape.trans hbx.tape, hgs.output.trans hbx.output, Nat.le_trans hbx.size hgs.size, fun b hb => hbo b (by omega)⟩⟩
    have cz := six_of hz
    have fz := free_six hz
    have HA := Lib.hid hA
    clear hgs hbo hrow hown s1 s2 s3 hold hbx hz hA
    simp only [set6] at hP
    refine ask_last _ rfl trivial ?_
    go_upto_region 4 with fail
    generalize (((((wx.setCell ⟨gb, 0, none⟩ (.int .i64 5)).setCell ⟨gb, 1, none⟩ (.bool false)).setCell ⟨gb, 2, none⟩ (.int .i64 0)).setCell ⟨gb, 3, none⟩ (.string ⟨#[]⟩)).setCell ⟨gb, 4, none⟩ (.slice a5 x.names.length c5)).setCell ⟨gb, 5, none⟩ (.slice a6 A.length c6) = w6 at hP ⊢
    clear cz fz hbd hgbl
    have ck := six_of hP.nod
    have IX := Lib.hid (idxstr_any _ _ s w6 hP.names.strs)
    have hlA : A.length = x.items.length := by rw [← HA.out, nodesOf, List.length_map]
    have hlen := HX.out.len
    have HLEN := Lib.hid hlen
    have HLA := Lib.hid hlA
    have cv1 := six_of hP.val
    rcases hf : x.names.findIdx? (fun t => decide (t = s)) with _ | i
    case' some =>
      rw [show idxZ x.names s = (i : Int) by unfold idxZ; rw [hf]] at IX
      have hi : i < A.length := by have := lt_of_some (findIdx_some hf).1; omega
      have hput : putN x s v = .mk 5 false 0 ⟨#[]⟩ x.names (nodesOf (A.set i ([.int .i64 v.kind, .bool v.bool, .int .i64 v.num, .string v.text, .slice a3 l3 c3, .slice a4 l4 c4], v))) := by unfold putN; rw [hf]; simp [HX.out.kind, HX.out.bool, HX.out.num, HX.out.text, nodesOf_set, HA.out]
      have HPUT := Lib.hid hput
      obtain ⟨g, rfl⟩ : ∃ g, a6 = some ⟨g, 0, none⟩ := by
        rcases hP.items.2 with ⟨e, h0⟩ | ⟨g, cap, cur, e, _⟩
        · omega
        · cases e; exact ⟨g, rfl⟩
      have hq : ∀ q, q < 6 → ∃ u, w6.cell? ⟨g, i * 6 + q, none⟩ = some u := fun q hq => by
        rw [hP.items.cellAt (i * 6 + q) (by omega), List.getElem?_eq_getElem (by rw [nCells_length A fun y hy => (hP.old y hy).len]; omega)]
        exact ⟨_, rfl⟩
      obtain ⟨u0, q0⟩ := hq 0 (by decide)
      obtain ⟨u1, q1⟩ := hq 1 (by decide)
      obtain ⟨u2, q2⟩ := hq 2 (by decide)
      obtain ⟨u3, q3⟩ := hq 3 (by decide)
      obtain ⟨u4, q4⟩ := hq 4 (by decide)
      obtain ⟨u5, q5⟩ := hq 5 (by decide)
      rw [Nat.add_zero] at q0
      have fr0 := hP.items.frozenAt (i * 6)
      have fr1 := hP.items.frozenAt (i * 6 + 1)
      have fr2 := hP.items.frozenAt (i * 6 + 2)
      have fr3 := hP.items.frozenAt (i * 6 + 3)
      have fr4 := hP.items.frozenAt (i * 6 + 4)
      have fr5 := hP.items.frozenAt (i * 6 + 5)
      have hvw := HV.out.same (w' := w6) fun b hb => hP.bel.block b (HS.out b hb)
      have hP8 := hP.set HS.out hi hvw
      have hi' : (i : Int) < (A.length : Int) := by omega
      have hi0 : (0 : Int) ≤ (i : Int) := by omega
      clear hP hq hput hvw hf hlen hlA
      go_upto_region 9 with (go_at_call 32; (with_reducible refine (IX.out).mono ?_); rintro e w7 ⟨rfl, rfl⟩)
      clear IX ck cv1 q0 q1 q2 q3 q4 q5 fr0 fr1 fr2 fr3 fr4 fr5
      generalize (((((w6.setCell ⟨g, i * 6, none⟩ (.int .i64 v.kind)).setCell ⟨g, i * 6 + 1, none⟩ (.bool v.bool)).setCell ⟨g, i * 6 + 2, none⟩ (.int .i64 v.num)).setCell ⟨g, i * 6 + 3, none⟩ (.string v.text)).setCell ⟨g, i * 6 + 4, none⟩ (.slice a3 l3 c3)).setCell ⟨g, i * 6 + 5, none⟩ (.slice a4 l4 c4) = w8 at hP8 ⊢
      generalize A.set i ([.int .i64 v.kind, .bool v.bool, .int .i64 v.num, .string v.text, .slice a3 l3 c3, .slice a4 l4 c4], v) = A8 at hP8 HPUT
      obtain ⟨ns8, hns8⟩ : ∃ n, n = x.names := ⟨_, rfl⟩
      generalize hvn : Value.slice a5 x.names.length c5 = vn8 at hP8 ⊢
      rw [← hns8] at hP8 HPUT
      obtain ⟨an, ln, cn, rfl⟩ : ∃ a l c, vn8 = Value.slice a l c := ⟨_, _, _, hvn.symm⟩
      generalize hvi : Value.slice (some ⟨g, 0, none⟩) A.length c6 = vi8 at hP8 ⊢
      obtain ⟨ai, li, ci, rfl⟩ : ∃ a l c, vi8 = Value.slice a l c := ⟨_, _, _, hvi.symm⟩
      clear hvn hvi hns8
    case' none =>
      rw [show idxZ x.names s = -1 by unfold idxZ; rw [hf]] at IX
      have hput : putN x s v = .mk 5 false 0 ⟨#[]⟩ (x.names ++ [s]) (nodesOf (A ++ [([.int .i64 v.kind, .bool v.bool, .int .i64 v.num, .string v.text, .slice a3 l3 c3, .slice a4 l4 c4], v)])) := by unfold putN; rw [hf]; simp [HX.out.kind, HX.out.bool, HX.out.num, HX.out.text, nodesOf, ← HA.out]
      have HPUT := Lib.hid hput
      have HP := Lib.hid hP
      clear hput hP hf hlen hlA
      go_upto_region 7 with (go_at_call 32; (with_reducible refine (IX.out).mono ?_); rintro e w7 ⟨rfl, rfl⟩)
      have b7 := (Below.refl w6.heap.size w6).alloc (o := .cells #[.string s] 9) (Nat.le_refl _)
      have hP7 := HP.out.below b7 HS.out
      have HP7 := Lib.hid hP7
      have cn7 := cells_new w6 #[.string s] 9 [.string s] rfl
      have HN7 := Lib.hid cn7
      have HO7 := Lib.hid hP7.names.1
      have hbs7 : w.heap.size + 3 ≤ (w6.alloc (.cells #[.string s] 9)).heap.size := by have := lt_of_block hP7.res; omega
      have HBS7 := Lib.hid hbs7
      obtain ⟨iq, hiq, hy0, hy1, hy2⟩ := infos
      obtain ⟨ip, hip, hz0, hz1, hz2⟩ := infon
      have HIQ := Lib.hid hiq
      have HIP := Lib.hid hip
      have hus := Tryd.underlying23
      have hug := Tryd.underlying24
      have hll := LOW.out.1
      have hll2 : A.length ≤ 1000000 := by have := LOW.out.2.1; have := HLA.out; omega
      clear b7 hP7 cn7 hbs7 hiq hip cv1
      go_upto_region 8 with ((refine wpList_append_lies _ rfl (.tmp 38) (.tmp 40) 23 rfl (w.heap.size + 3) 9 iq (.string ⟨#[]⟩) 1 16 hus HIQ.out hy0 hy1 hy2 rfl (by decide) (.slice a5 x.names.length c5) x.names.length _ rfl HO7.out ⟨w6.heap.size, 0, none⟩ 1 1 [.string s] rfl rfl HN7.out (by intro u hu; simp at hu; subst hu; rfl) (by decide) (by unfold maxLen; omega) (by omega) HBS7.out _ rfl ?_); intro gg cc W8 hown hgrow hat hlt; (have hk8 := (hgrow.block gb (lt_of_block HP7.out.nod) (fun e => HP7.out.s1 e.symm)).trans HP7.out.nod); (have hf8 := free_six hk8); (have hd8 := six_of hk8); (have hP8a := HP7.out.name HS.out hown hgrow (own_at hat) (by have := HSZ.out; unfold maxLen; omega)); clear hown hgrow hat hk8)
      clear hf8 hd8 HO7 HN7 HBS7 HP7 HP ck
      generalize W8.setCell ⟨gb, 4, none⟩ (.slice (some ⟨gg, 0, none⟩) (x.names.length + 1) cc) = w8a at hP8a ⊢
      have ck8 := six_of hP8a.nod
      have cv8 := six_of hP8a.val
      have b9 := (Below.refl w8a.heap.size w8a).alloc (o := .cells #[.int .i64 v.kind, .bool v.bool, .int .i64 v.num, .string v.text, .slice a3 l3 c3, .slice a4 l4 c4] 26) (Nat.le_refl _)
      have hP9 := hP8a.below b9 HS.out
      have HP9 := Lib.hid hP9
      have HN9 := Lib.hid (cells_new w8a #[.int .i64 v.kind, .bool v.bool, .int .i64 v.num, .string v.text, .slice a3 l3 c3, .slice a4 l4 c4] 26 [.int .i64 v.kind, .bool v.bool, .int .i64 v.num, .string v.text, .slice a3 l3 c3, .slice a4 l4 c4] rfl)
      have HO9 := Lib.hid hP9.items
      have hbs9 : w.heap.size + 3 ≤ (w8a.alloc (.cells #[.int .i64 v.kind, .bool v.bool, .int .i64 v.num, .string v.text, .slice a3 l3 c3, .slice a4 l4 c4] 26)).heap.size := by have := lt_of_block hP9.res; omega
      have HBS9 := Lib.hid hbs9
      have hvw := HV.out.same (w' := w8a.alloc (.cells #[.int .i64 v.kind, .bool v.bool, .int .i64 v.num, .string v.text, .slice a3 l3 c3, .slice a4 l4 c4] 26)) fun b hb => hP9.bel.block b (HS.out b hb)
      have HVW := Lib.hid hvw
      have HONE := Lib.hid HV.out.one
      clear b9 hP8a hP9 hbs9 hvw
      go_upto_region 9 with ((refine wpList_append_lies _ rfl (.tmp 44) (.tmp 46) 24 rfl (w.heap.size + 3) 26 ip (.agg #[.int .i64 0, .bool false, .int .i64 0, .string ⟨#[]⟩, .slice none 0 0, .slice none 0 0]) 6 88 hug HIP.out hz0 hz1 hz2 rfl (by decide) (.slice a6 A.length c6) A.length _ rfl HO9.out ⟨w8a.heap.size, 0, none⟩ 1 1 [.int .i64 v.kind, .bool v.bool, .int .i64 v.num, .string v.text, .slice a3 l3 c3, .slice a4 l4 c4] rfl rfl HN9.out HONE.out (by decide) (by unfold maxLen; omega) (by omega) HBS9.out _ rfl ?_); intro g2 cc2 W9 hown hgrow hat hlt2; (have hk8 := (hgrow.block gb (lt_of_block HP9.out.nod) (fun e => HP9.out.s2 e.symm)).trans HP9.out.nod); (have hf8 := free_six hk8); (have hd8 := six_of hk8); (have hP8 := HP9.out.item HS.out hown hgrow (own_at hat) HVW.out); clear hown hgrow hat hk8)
      clear hf8 hd8 HO9 HN9 HBS9 HP9 ck8 cv8 HONE HVW
      generalize W9.setCell ⟨gb, 5, none⟩ (.slice (some ⟨g2, 0, none⟩) (A.length + 1) cc2) = w8 at hP8 ⊢
      generalize A ++ [([.int .i64 v.kind, .bool v.bool, .int .i64 v.num, .string v.text, .slice a3 l3 c3, .slice a4 l4 c4], v)] = A8 at hP8 HPUT
      generalize x.names ++ [s] = ns8 at hP8 HPUT
      generalize hvn : Value.slice (some ⟨gg, 0, none⟩) (x.names.length + 1) cc = vn8 at hP8 ⊢
      obtain ⟨an, ln, cn, rfl⟩ : ∃ a l c, vn8 = Value.slice a l c := ⟨_, _, _, hvn.symm⟩
      generalize hvi : Value.slice (some ⟨g2, 0, none⟩) (A.length + 1) cc2 = vi8 at hP8 ⊢
      obtain ⟨ai, li, ci, rfl⟩ : ∃ a l c, vi8 = Value.slice a l c := ⟨_, _, _, hvi.symm⟩
      clear hvn hvi
    all_goals
      have hyv : validN 8 (.mk 5 false 0 ⟨#[]⟩ ns8 (nodesOf A8)) = true := by rw [← HPUT.out]; exact HY.out
      have hlow8 := lowN_of_valid 8 (d + 1) _ hyv
      have V9 := Lib.hid (isvalid_any _ _ w8 (hP8.node HS.out) (fun b hb => hb) hlow8 (HT.out.below hP8.bel))
      rw [hyv] at V9
      have ck9 := six_of hP8.nod
      have HP8 := Lib.hid hP8
      have HL8 := Lib.hid hlow8
      clear hP8 hyv hlow8
      go_upto_region 11 with (go_at_call 8; (with_reducible refine (V9.out).mono ?_); rintro e w9 ⟨rfl, hb9⟩)
      have hP9 := HP8.out.below hb9 HS.out
      have hnode9 := hP9.node HS.out
      obtain ⟨_, _, en, -, -, hitems⟩ := hnode9
      simp only [List.cons.injEq, and_true, true_and] at en
      obtain ⟨-, -, -, -, rfl, rfl⟩ := en
      have CI := Lib.hid (citems_any d (fun b => b < w9.heap.size) _ (nodesOf A8) w9 hitems (fun b hb => hb) HL8.out.2.1 HL8.out.2.2)
      have ck9' := six_of hP9.nod
      have HP9 := Lib.hid hP9
      clear hP9 hitems ck9 hb9 HP8 V9
      go_upto_region 12 with (go_at_call 25; (with_reducible refine (CI.out).mono ?_); rintro e w10 ⟨v3, rfl, hv3, hb10⟩; obtain ⟨a7, c7, rfl, hv3r⟩ := hv3; (have hk10 := (hb10.block _ (lt_of_block HP9.out.nod)).trans HP9.out.nod); (have fk10 := free_six hk10); (have ck10 := six_of hk10); clear hk10)
      have hv3 : NodesIn (NodeIn d (Fr w9.heap.size w10) w10) (Fr w9.heap.size w10) w10 (.slice a7 (nodesOf A8).length c7) (nodesOf A8) := ⟨a7, c7, rfl, hv3r⟩
      have hP10 := HP9.out.below hb10 HS.out
      generalize (nodesOf A8).length = l7 at hv3 ⊢
      have hk11 := six_set5 hP10.nod (.slice a7 l7 c7)
      have hgs := grown_set w10 gb 5 (.slice a7 l7 c7)
      have hlo := hP10.lo
      have hgb9 := lt_of_block HP9.out.nod
      have hsz9 := hb10.size
      have hr11 : (w10.setCell ⟨gb, 5, none⟩ (.slice a7 l7 c7)).heap[w.heap.size + 1 + 1]? = some (.cells #[.int .i64 0, .bool false, .int .i64 0, .string ⟨#[]⟩, .slice none 0 0, .slice none 0 0] 26 (0, 0)) := (hgs.block _ (lt_of_block hP10.res) (by intro e; have := Option.some.inj e; omega)).trans hP10.res
      have HG11 := Lib.hid hgs
      obtain ⟨w11, hw11⟩ : ∃ W, W = w10.setCell ⟨gb, 5, none⟩ (.slice a7 l7 c7) := ⟨_, rfl⟩
      rw [← hw11] at hk11 hr11 HG11
      rw [← hw11]
      have c11 := six_of hk11
      have fr11 := free_six hr11
      have cr11 := six_of hr11
      have hne : ¬ w.heap.size + 1 + 1 = gb := by omega
      have hne2 : ¬ gb = w.heap.size + 1 + 1 := fun e => hne e.symm
      have HR11 := Lib.hid hr11
      have HP10 := Lib.hid hP10
      have HV3 := Lib.hid hv3
      clear hv3 hv3r hP10 hk11 hgs hr11 hw11 fk10 ck10 ck9' CI hb10
      go_wp2
      have hput := six_put HR11.out (.int .i64 5) (.bool false) (.int .i64 0) (.string ⟨#[]⟩) (.slice an ln cn) (.slice a7 l7 c7)
      have hgf := grown_set6 w11 (w.heap.size + 1 + 1) (.int .i64 5) (.bool false) (.int .i64 0) (.string ⟨#[]⟩) (.slice an ln cn) (.slice a7 l7 c7)
      have hwf : ∀ b, b < w10.heap.size → b ≠ gb → b ≠ w.heap.size + 2 → (set6 w11 (w.heap.size + 1 + 1) (.int .i64 5) (.bool false) (.int .i64 0) (.string ⟨#[]⟩) (.slice an ln cn) (.slice a7 l7 c7)).heap[b]? = w10.heap[b]? := fun b h1 h2 h3 => (hgf.block b (Nat.lt_of_lt_of_le h1 HG11.out.size) (by intro e; have := Option.some.inj e; omega)).trans (HG11.out.block b h1 (by intro e; exact h2 (Option.some.inj e)))
      have hzf : w10.heap.size ≤ (set6 w11 (w.heap.size + 1 + 1) (.int .i64 5) (.bool false) (.int .i64 0) (.string ⟨#[]⟩) (.slice an ln cn) (.slice a7 l7 c7)).heap.size := Nat.le_trans HG11.out.size hgf.size
      refine bodyPost_ret (v := .tuple #[.agg #[.int .i64 5, .bool false, .int .i64 0, .string ⟨#[]⟩, .slice an ln cn, .slice a7 l7 c7], .int .i64 0]) ?_ ?_ ?_
      rotate_left
      · rfl
      · refine ⟨.slice an ln cn, .slice a7 l7 c7, rfl, ?_, ?_⟩
        · rw [HPUT.out]
          have e1 : ∀ b, (Fr (w.heap.size + 3) w10 b ∧ (Value.slice an ln cn).ownBlock = some b) → (set6 w11 (w.heap.size + 1 + 1) (.int .i64 5) (.bool false) (.int .i64 0) (.string ⟨#[]⟩) (.slice an ln cn) (.slice a7 l7 c7)).heap[b]? = w10.heap[b]? := fun b hb => hwf b hb.1.2.1 (fun e => HP10.out.s1 (by rw [← e]; exact hb.2)) (by have := hb.1.1; omega)
          have e2 : ∀ b, Fr w9.heap.size w10 b → (set6 w11 (w.heap.size + 1 + 1) (.int .i64 5) (.bool false) (.int .i64 0) (.string ⟨#[]⟩) (.slice an ln cn) (.slice a7 l7 c7)).heap[b]? = w10.heap[b]? := fun b hb => hwf b hb.2.1 (by have := hb.1; omega) (by have := hb.1; omega)
          refine ⟨.slice an ln cn, .slice a7 l7 c7, rfl, Nat.zero_le _, ?_, ?_⟩
          · exact ((HP10.out.names.fr.and HP10.out.names.ownAt).same e1).mono fun b hb => hb.1.move (e1 b hb) (by omega) hzf
          · exact (HV3.out.same e2 fun cs y q => q.same e2).mono (fun b hb => hb.move (e2 b hb) (by omega) hzf) fun cs y q => q.mono fun b hb => hb.move (e2 b hb) (by omega) hzf
        · have hbb := HP10.out.bel
          exact ⟨hgf.os.trans (HG11.out.os.trans hbb.os), hgf.tape.trans (HG11.out.tape.trans hbb.tape), hgf.output.trans (HG11.out.output.trans hbb.output), Nat.le_trans hbb.size hzf, fun b hb => (hwf b (Nat.lt_of_lt_of_le hb hbb.size) (by omega) (by omega)).trans (hbb.block b hb)⟩
      · obtain ⟨q0, q1, q2, q3, q4, q5⟩ := six_of hput
        simp only [set6] at q0 q1 q2 q3 q4 q5
        simp [results, Tryd.results15, go_sem, q0, q1, q2, q3, q4, q5]
end Go.Proofs.YthcgkkafbobfoaaDoor
