/- The map under construction in the document's Fit: two rows of its own, its items' copies apart. -/
import Derived.Test.YtmlmdidaldcoiaaGreatDoorVpu
import Derived.Test.YtmlmdidaldcoiaaGreatDoorVrt
namespace Go.Proofs.YtmlmdidaldcoiaaGreatDoor
open Go Go.ChangeShapes Go.WideShapes Go.ChangeAt Go.RowKit
set_option linter.unusedVariables false
set_option linter.unusedSimpArgs false

/-- The two rows of the map under construction in block gb. -/
structure R3 (TN TS : TypeId) (d base gb : Nat) (wx : World) (vn vi : Value) (ns : List ByteArray) (A : List NC) : Prop where
 names : SRow TS base wx vn ns
 items : wx.ownsRow base TN 6 vi A.length (nCells A)
 s1 : vn.ownBlock ≠ some gb
 s2 : vi.ownBlock ≠ some gb
 s3 : ∀ b, vn.ownBlock = some b → vi.ownBlock ≠ some b
 old : ∀ y, y ∈ A → NodeIn d (fun b => base ≤ b ∧ b < wx.heap.size ∧ b ≠ gb ∧ vn.ownBlock ≠ some b ∧ vi.ownBlock ≠ some b) wx y.1 y.2
 gl : gb < wx.heap.size
section
variable {TN TS : TypeId} {d base gb : Nat} {wx wn : World} {vn vi : Value} {ns : List ByteArray} {A : List NC}
theorem own_ne {v : Value} {row : Option Nat} (h : ∀ b, v.ownBlock = some b → row ≠ some b) : v.ownBlock = none ∨ v.ownBlock ≠ row := by
 cases e : v.ownBlock with
 | none => exact .inl rfl
 | some b => exact .inr fun e' => h b e e'.symm
theorem R3.kept {row : Option Nat} (h : R3 TN TS d base gb wx vn vi ns A) (hg : wx.grownBy wn row) (hr : ∀ r, row = some r → (r < base ∨ r = gb)) : R3 TN TS d base gb wn vn vi ns A := by
 have hn : ∀ b, vn.ownBlock = some b → row ≠ some b := fun b e q => by
  rcases hr b q with z | z
  ·have := (h.names.1.lt b e).1; omega
  ·exact h.s1 (z ▸ e)
 have hi : ∀ b, vi.ownBlock = some b → row ≠ some b := fun b e q => by
  rcases hr b q with z | z
  ·have := (h.items.lt b e).1; omega
  ·exact h.s2 (z ▸ e)
 refine ⟨h.names.kept hg (own_ne hn), h.items.kept hg (own_ne hi), h.s1, h.s2, h.s3, fun y hy => ((h.old y hy).same fun b q => hg.block b q.2.1 fun e => ?_).mono fun b q => ⟨q.1, Nat.lt_of_lt_of_le q.2.1 hg.size, q.2.2⟩, Nat.lt_of_lt_of_le h.gl hg.size⟩
 rcases hr b e.symm with z | z
 ·have := q.1; omega
 ·exact q.2.2.1 z
theorem R3.below (h : R3 TN TS d base gb wx vn vi ns A) (hb : Below wx.heap.size wx wn) : R3 TN TS d base gb wn vn vi ns A :=
 h.kept (row := none) ⟨hb.os, hb.tape, hb.output, hb.size, fun i hi _ => hb.block i hi⟩ (fun r e => by cases e)
/-- One name more. -/
theorem R3.name {vn' : Value} {s : ByteArray} (h : R3 TN TS d base gb wx vn vi ns A) (hown : wn.ownsRow base TS 1 vn' (ns.length + 1) (ns.map Value.string ++ [.string s])) (hg : wx.grownBy wn vn.ownBlock) (hat : vn'.ownBlock = vn.ownBlock ∨ ∀ b, vn'.ownBlock = some b → wx.heap.size ≤ b) (hs : s.size ≤ maxLen - 2) : R3 TN TS d base gb wn vn' vi (ns ++ [s]) A := by
 have hgl := h.gl
 refine ⟨h.names.push hown hs, h.items.kept hg (own_ne fun b e q => h.s3 b q e), ?_, h.s2, ?_, fun y hy => ((h.old y hy).same fun b q => hg.block b q.2.1 fun e => q.2.2.2.1 e.symm).mono fun b q => ⟨q.1, Nat.lt_of_lt_of_le q.2.1 hg.size, q.2.2.1, ?_, q.2.2.2.2⟩, Nat.lt_of_lt_of_le h.gl hg.size⟩
 ·intro e
  rcases hat with q | q
  ·exact h.s1 (q ▸ e)
  ·have := q gb e; omega
 ·intro b e e'
  rcases hat with q | q
  ·exact h.s3 b (q ▸ e) e'
  ·have := q b e; have := (h.items.lt b e').2; omega
 ·intro e
  rcases hat with z | z
  ·exact q.2.2.2.1 (z ▸ e)
  ·have := z b e; have := q.2.1; omega
/-- One item more. -/
theorem R3.item {vi' : Value} {cs : List Value} {y : ND} (h : R3 TN TS d base gb wx vn vi ns A) (hown : wn.ownsRow base TN 6 vi' (A.length + 1) (nCells A ++ cs)) (hg : wx.grownBy wn vi.ownBlock) (hat : vi'.ownBlock = vi.ownBlock ∨ ∀ b, vi'.ownBlock = some b → wx.heap.size ≤ b) (hy : NodeIn d (fun b => base ≤ b ∧ b < wx.heap.size ∧ b ≠ gb ∧ vn.ownBlock ≠ some b ∧ vi.ownBlock ≠ some b) wx cs y) : R3 TN TS d base gb wn vn vi' ns (A ++ [(cs, y)]) := by
 have hgl := h.gl
 refine ⟨h.names.kept hg (own_ne fun b e q => h.s3 b e q), ?_, h.s1, ?_, ?_, ?_, Nat.lt_of_lt_of_le h.gl hg.size⟩
 ·rw [List.length_append, nCells_append]
  simpa [nCells] using hown
 ·intro e
  rcases hat with q | q
  ·exact h.s2 (q ▸ e)
  ·have := q gb e; omega
 ·intro b e e'
  rcases hat with q | q
  ·exact h.s3 b e (q ▸ e')
  ·have := q b e'; have := (h.names.1.lt b e).2; omega
 ·have hm : ∀ {cs : List Value} {y : ND}, NodeIn d (fun b => base ≤ b ∧ b < wx.heap.size ∧ b ≠ gb ∧ vn.ownBlock ≠ some b ∧ vi.ownBlock ≠ some b) wx cs y → NodeIn d (fun b => base ≤ b ∧ b < wn.heap.size ∧ b ≠ gb ∧ vn.ownBlock ≠ some b ∧ vi'.ownBlock ≠ some b) wn cs y := fun q => (q.same fun b q => hg.block b q.2.1 fun e => q.2.2.2.2 e.symm).mono fun b q => ⟨q.1, Nat.lt_of_lt_of_le q.2.1 hg.size, q.2.2.1, q.2.2.2.1, fun e => by
   rcases hat with z | z
   ·exact q.2.2.2.2 (z ▸ e)
   ·have := z b e; have := q.2.1; omega⟩
  intro z hz
  rcases List.mem_append.1 hz with hz | hz
  ·exact hm (h.old z hz)
  ·cases List.mem_singleton.1 hz
   exact hm hy
theorem R3.node (h : R3 TN TS d base gb wx vn vi ns A) : NodeIn (d + 1) (fun b => base ≤ b ∧ b < wx.heap.size) wx [.int .i64 5, .bool false, .int .i64 0, .string ⟨#[]⟩, vn, vi] (.mk 5 false 0 ⟨#[]⟩ ns (nodesOf A)) := by
 have h6 : ∀ y, y ∈ A → y.1.length = 6 := fun y hy => (h.old y hy).len
 have h1 := h.items
 refine ⟨_, _, rfl, Nat.zero_le _, h.names.strs, ?_⟩
 have hl : (nodesOf A).length = A.length := by simp [nodesOf]
 rcases h1.2 with ⟨rfl, hA0⟩ | ⟨g, cap, cur, rfl, hbg, hg, hnc, hcm, hcs, hcu⟩
 ·have hn : A = [] := List.length_eq_zero_iff.1 hA0
  subst hn
  exact NodesIn.nil _ _ _
 ·refine ⟨_, cap, by rw [show (ND.mk 5 false 0 ⟨#[]⟩ ns (nodesOf A)).items = nodesOf A from rfl, hl], by rw [show (ND.mk 5 false 0 ⟨#[]⟩ ns (nodesOf A)).items = nodesOf A from rfl, hl]; exact hnc, hcm, fun j x hj => ?_⟩
  have hj2 : (nodesOf A)[j]? = some x := hj
  have hj' : j < A.length := by have := lt_of_some hj2; omega
  have e : A[j]? = some (A[j].1, A[j].2) := by rw [List.getElem?_eq_getElem hj']
  have hx : x = A[j].2 := by
   rw [nodesOf, List.getElem?_map, e] at hj2
   exact (Option.some.inj hj2).symm
  subst hx
  refine ⟨g, 0, A[j].1, rfl, ⟨hbg, lt_of_block hg⟩, fun f u hu => ?_, (h.old _ (List.getElem_mem hj')).mono fun b q => ⟨q.1, q.2.1⟩⟩
  have := h1.cells (g := g) rfl _ _ (nCells_at h6 e f u hu)
  rw [Addr.add_lit, ← Nat.add_assoc] at this; exact this
theorem R3.forms (h : R3 TN TS d base gb wx vn vi ns A) : (∃ an cn, vn = .slice an ns.length cn) ∧ ∃ ai ci, vi = .slice ai A.length ci := by
 constructor
 ·obtain ⟨a, c, e, _⟩ := h.names.strs; exact ⟨a, c, e⟩
 ·rcases h.items.2 with ⟨rfl, h0⟩ | ⟨g, cap, cur, rfl, _⟩
  ·exact ⟨none, 0, by rw [h0]⟩
  ·exact ⟨_, cap, rfl⟩
/-- The argument's block, the result's, the version's, the map's. -/
structure F3 (TN TV : TypeId) (w : World) (gb : Nat) (cx : Array Value) (V : VD) (vn vi : Value) (wx : World) : Prop where
 box : wx.heap[w.heap.size]? = some (.cells cx TN (0, 0))
 res : wx.heap[w.heap.size + 1]? = some (.cells #[.int .i64 0, .bool false, .int .i64 0, .string ⟨#[]⟩, .slice none 0 0, .slice none 0 0] TN (0, 0))
 ver : wx.heap[w.heap.size + 2]? = some (.cells #[.string V.p, .int .i64 V.a, .int .i64 V.b, .int .i64 V.f, .int .i64 V.z] TV (0, 0))
 nod : wx.heap[gb]? = some (.cells #[.int .i64 5, .bool false, .int .i64 0, .string ⟨#[]⟩, vn, vi] TN (0, 0))
 lo : w.heap.size + 3 ≤ gb
 bel : Below w.heap.size w wx
variable {TV : TypeId} {w : World} {cx : Array Value} {V : VD}
theorem F3.grown {row : Option Nat} (h : F3 TN TV w gb cx V vn vi wx) (hg : wx.grownBy wn row) (hr : ∀ r, row = some r → w.heap.size + 3 ≤ r ∧ r ≠ gb) : F3 TN TV w gb cx V vn vi wn := by
 have hk : ∀ {b : Nat} {o : Obj}, (b < w.heap.size + 3 ∨ b = gb) → wx.heap[b]? = some o → wn.heap[b]? = some o := fun {b o} hb hh => (hg.block b (lt_of_block hh) fun e => by
  obtain ⟨q1, q2⟩ := hr b e.symm
  rcases hb with z | z
  ·omega
  ·exact q2 z).trans hh
 exact ⟨hk (.inl (by omega)) h.box, hk (.inl (by omega)) h.res, hk (.inl (by omega)) h.ver, hk (.inr rfl) h.nod, h.lo, h.bel.grown hg h.bel.size fun r e => by have := (hr r e).1; omega⟩
theorem F3.below (h : F3 TN TV w gb cx V vn vi wx) (hb : Below wx.heap.size wx wn) : F3 TN TV w gb cx V vn vi wn :=
 h.grown (row := none) ⟨hb.os, hb.tape, hb.output, hb.size, fun i hi _ => hb.block i hi⟩ (fun r e => by cases e)
theorem F3.set4 (h : F3 TN TV w gb cx V vn vi wx) (u : Value) : F3 TN TV w gb cx V u vi (wx.setCell ⟨gb, 4, none⟩ u) := by
 have hlo := h.lo
 have hne : ∀ i, i ≠ gb → (wx.setCell ⟨gb, 4, none⟩ u).heap[i]? = wx.heap[i]? := fun i hi => heap_setCell_other wx ⟨gb, 4, none⟩ i _ hi
 exact ⟨(hne _ (by omega)).trans h.box, (hne _ (by omega)).trans h.res, (hne _ (by omega)).trans h.ver, six_set4 h.nod u, hlo, h.bel.grown (grown_set wx gb 4 u) h.bel.size fun r e => by have := Option.some.inj (show some gb = some r from e); omega⟩
theorem F3.set5 (h : F3 TN TV w gb cx V vn vi wx) (u : Value) : F3 TN TV w gb cx V vn u (wx.setCell ⟨gb, 5, none⟩ u) := by
 have hlo := h.lo
 have hne : ∀ i, i ≠ gb → (wx.setCell ⟨gb, 5, none⟩ u).heap[i]? = wx.heap[i]? := fun i hi => heap_setCell_other wx ⟨gb, 5, none⟩ i _ hi
 exact ⟨(hne _ (by omega)).trans h.box, (hne _ (by omega)).trans h.res, (hne _ (by omega)).trans h.ver, six_set5 h.nod u, hlo, h.bel.grown (grown_set wx gb 5 u) h.bel.size fun r e => by have := Option.some.inj (show some gb = some r from e); omega⟩
theorem F3.verg {gv : Nat} (h : F3 TN TV w gb cx V vn vi wx) (hg : gv = w.heap.size + 2) : wx.heap[gv]? = some (.cells #[.string V.p, .int .i64 V.a, .int .i64 V.b, .int .i64 V.f, .int .i64 V.z] TV (0, 0)) := hg ▸ h.ver
theorem F3.setz {gv : Nat} (h : F3 TN TV w gb cx V vn vi wx) (hg : gv = w.heap.size + 2) (z : Int) : F3 TN TV w gb cx { V with z := z } vn vi (wx.setCell ⟨gv, 4, none⟩ (.int .i64 z)) := by
 have hlo := h.lo
 have hne : ∀ i, i ≠ gv → (wx.setCell ⟨gv, 4, none⟩ (.int .i64 z)).heap[i]? = wx.heap[i]? := fun i hi => heap_setCell_other wx ⟨gv, 4, none⟩ i _ hi
 exact ⟨(hne _ (by omega)).trans h.box, (hne _ (by omega)).trans h.res, by rw [← hg]; exact heap_set (h.verg hg) _, (hne _ (by omega)).trans h.nod, hlo, h.bel.grown (grown_set wx gv 4 _) h.bel.size fun r e => by have := Option.some.inj (show some gv = some r from e); omega⟩
theorem F3.setbox (h : F3 TN TV w gb cx V vn vi wx) (a b c d e f : Value) (hc : ∃ a' b' c' d' e' f', cx = #[a', b', c', d', e', f'] := by exact ⟨_, _, _, _, _, _, rfl⟩) : F3 TN TV w gb #[a, b, c, d, e, f] V vn vi (set6 wx w.heap.size a b c d e f) := by
 have hlo := h.lo
 obtain ⟨a', b', c', d', e', f', rfl⟩ := hc
 have hg := grown_set6 wx w.heap.size a b c d e f
 have hk : ∀ {i : Nat} {o : Obj}, i ≠ w.heap.size → wx.heap[i]? = some o → (set6 wx w.heap.size a b c d e f).heap[i]? = some o := fun {i o} hi hh => (hg.block i (lt_of_block hh) (by intro e; exact hi (Option.some.inj e))).trans hh
 exact ⟨six_put h.box a b c d e f, hk (by omega) h.res, hk (by omega) h.ver, hk (by omega) h.nod, hlo, h.bel.grown hg h.bel.size fun r e => by have := Option.some.inj e; omega⟩
theorem F3.end_ (h : F3 TN TV w gb cx V vn vi wx) (a b c d e f : Value) : Below w.heap.size w (set6 wx (w.heap.size + 1) a b c d e f) :=
 h.bel.grown (grown_set6 wx _ a b c d e f) h.bel.size (fun g e => by have := Option.some.inj (show some (w.heap.size + 1) = some g from e); omega)
end
end Go.Proofs.YtmlmdidaldcoiaaGreatDoor
