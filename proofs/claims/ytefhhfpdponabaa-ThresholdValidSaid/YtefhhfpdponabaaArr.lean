/- Arrays in blocks of their own: a block whose cells are all known, none frozen; what loads, stores and copies of the whole array do to it. For every program. -/
import Derived.Test.YtefhhfpdponabaaMem
import Derived.Laws.Rows
import Derived.Laws.Tables
namespace Go.Proofs.Ytefhhfpdponabaa
open Go Go.RowKit
set_option linter.unusedVariables false
set_option linter.unusedSimpArgs false

/-- Block g is just these cells, of type T, none frozen. -/
def Arr (w : World) (g : Nat) (T : TypeId) (xs : List Value) : Prop := w.heap[g]? = some (.cells xs.toArray T (0, 0))

theorem Arr.lt {w : World} {g : Nat} {T : TypeId} {xs : List Value} (h : Arr w g T xs) : g < w.heap.size := lt_of_block h
theorem Arr.cellAt {w : World} {g : Nat} {T : TypeId} {xs : List Value} (h : Arr w g T xs) {j : Nat} {u : Value} (hj : xs[j]? = some u) : w.cell? ⟨g, j, none⟩ = some u := by
  rw [cell_of_row w g j _ _ _ h]; simpa using hj
theorem Arr.free {w : World} {g : Nat} {T : TypeId} {xs : List Value} (h : Arr w g T xs) (j : Nat) : w.frozen? ⟨g, j, none⟩ = false := frozen_of_row w g j _ _ h
theorem Arr.of_block {w w' : World} {g : Nat} {T : TypeId} {xs : List Value} (h : Arr w g T xs) (e : w'.heap[g]? = w.heap[g]?) : Arr w' g T xs := e.trans h
theorem Arr.alloc {w : World} {g : Nat} {T : TypeId} {xs : List Value} (h : Arr w g T xs) (o : Obj) : Arr (w.alloc o) g T xs := h.of_block (Below.heap_alloc w o g h.lt)
theorem Arr.drew {w : World} {g : Nat} {T : TypeId} {xs : List Value} (h : Arr w g T xs) : Arr w.drew g T xs := h
theorem Arr.drewN {w : World} {g : Nat} {T : TypeId} {xs : List Value} (h : Arr w g T xs) (n : Nat) : Arr (w.drewN n) g T xs := h
theorem Arr.below {w w' : World} {g : Nat} {T : TypeId} {xs : List Value} (h : Arr w g T xs) {B : Nat} (hb : Below B w w') (hg : g < B) : Arr w' g T xs := h.of_block (hb.block g hg)
theorem Arr.beside {w : World} {g : Nat} {T : TypeId} {xs : List Value} (h : Arr w g T xs) (a : Addr) (v : Value) (hne : g ≠ a.block) : Arr (w.setCell a v) g T xs := h.of_block (Below.heap_setCell w a v g hne)
theorem Arr.kept {w w' : World} {g : Nat} {T : TypeId} {xs : List Value} (h : Arr w g T xs) {row : Option Nat} (hg : w.grownBy w' row) (hne : some g ≠ row) : Arr w' g T xs := h.of_block (hg.block g h.lt hne)
theorem Arr.new (w : World) (xs : List Value) (T : TypeId) : Arr (w.alloc (.cells xs.toArray T)) w.heap.size T xs := heap_alloc_new w _
theorem Arr.new2 (w : World) (o : Obj) (xs : List Value) (T : TypeId) : Arr ((w.alloc o).alloc (.cells xs.toArray T)) (w.heap.size + 1) T xs := heap_alloc2_new w _ _
theorem Arr.new3 (w : World) (o o' : Obj) (xs : List Value) (T : TypeId) : Arr (((w.alloc o).alloc o').alloc (.cells xs.toArray T)) (w.heap.size + 2) T xs := by
  have := Arr.new ((w.alloc o).alloc o') xs T
  simpa using this
theorem Arr.store {w : World} {g : Nat} {T : TypeId} {xs : List Value} (h : Arr w g T xs) (j : Nat) (v : Value) : Arr (w.setCell ⟨g, j, none⟩ v) g T (xs.set j v) := by
  unfold Arr
  rw [heap_setCell_same w g j _ _ v h]
  simp
/-- The whole array is read. -/
theorem Arr.loads {P : Program} {w : World} {g : Nat} {T : TypeId} {xs : List Value} (h : Arr w g T xs) {n : Nat} (hn : xs.length = n) : (loadCellsFrom ⟨g, 0, none⟩ 0 n #[]).run P w = .ok xs.toArray w := by
  subst hn
  have := run_loadCells_list (P := P) w ⟨g, 0, none⟩ xs (fun j v hv => by
    rw [Addr.add_lit]
    simpa using h.cellAt (j := j) (u := v) (by simpa using hv))
  simpa [loadCells] using this
/-- The whole array is written. -/
theorem Arr.saves {P : Program} {w : World} {g : Nat} {T : TypeId} {xs ys : List Value} (h : Arr w g T xs) (hl : ys.length = xs.length) (h1 : ∀ v ∈ ys, v.oneCell' = true) :
    (storeCells ⟨g, 0, none⟩ ys 0).run P w = .ok () (w.setRow g ys.toArray) := by
  have := run_storeCells_from (P := P) g T ys 0 xs.toArray w h (by simp [hl]) h1
  rw [this]
  congr 2
theorem Arr.setRow {w : World} {g : Nat} {T : TypeId} {xs : List Value} (h : Arr w g T xs) (ys : List Value) : Arr (w.setRow g ys.toArray) g T ys := setRow_heap w g _ _ _ _ h
theorem Arr.besideRow {w : World} {g : Nat} {T : TypeId} {xs : List Value} (h : Arr w g T xs) (k : Nat) (ys : Array Value) (hne : g ≠ k) : Arr (w.setRow k ys) g T xs := h.of_block (setRow_other w k g ys hne)
theorem below_setRow {B : Nat} {a w : World} (h : Below B a w) (g : Nat) (hg : B ≤ g) (ys : Array Value) : Below B a (w.setRow g ys) :=
  ⟨h.os, h.tape, h.output, by simpa using h.size, fun k hk => (setRow_other w g k ys (by omega)).trans (h.block k hk)⟩
theorem belowN {B : Nat} {a w : World} (h : Below B a w) (n : Nat) : Below B a (w.drewN n) := ⟨h.os, h.tape, h.output, h.size, h.block⟩

section
variable {P : Program}
/-- A whole array is loaded, as an operation. -/
theorem wp_ld {ops : Array Oper} {rest : List Oper} {o : Oper} {a : Act} {w : World} {Q : Exit → Act → World → Prop} (hgd : o.guard = none) (ty : TypeId) (x : Operand) (ho : o.op = .load ty x)
    (g : Nat) (hx : a.eval x = .pointer (some ⟨g, 0, none⟩)) {T : TypeId} {xs : List Value} (h : Arr w g T xs) {n : Nat} {e : TypeId} (hu : P.underlying ty = some (.array n e)) (hi : (P.info? ty).map (·.size) = some n) (hl : xs.length = n)
    (K : wpList P ops Q rest (a.put o.dst (.agg xs.toArray)) w) : wpList P ops Q (o :: rest) a w :=
  wpList_load_row hgd ty x ho g hx T xs.toArray (0, 0) _ h hu rfl (by rw [hi]; simp [hl]) K
/-- A whole array is stored. -/
theorem wp_st {ops : Array Oper} {rest : List Oper} {o : Oper} {a : Act} {w : World} {Q : Exit → Act → World → Prop} (hgd : o.guard = none) (ty : TypeId) (x y : Operand) (ho : o.op = .store ty x y)
    (g : Nat) (ys : List Value) (hx : a.eval x = .pointer (some ⟨g, 0, none⟩)) (hy : a.eval y = .agg ys.toArray) {T : TypeId} {xs : List Value} (h : Arr w g T xs) {n : Nat} (hi : (P.info? ty).map (·.size) = some n)
    (hl : xs.length = n) (hly : ys.length = n) (h1 : ∀ v ∈ ys, v.oneCell' = true)
    (K : wpList P ops Q rest (a.put o.dst undef) (w.setRow g ys.toArray)) : wpList P ops Q (o :: rest) a w :=
  wpList_store_row hgd ty x y ho g ys.toArray hx hy T xs.toArray h (by rw [hi]; simp [hly]) (by simp [hl, hly]) (by simpa using h1) K
/-- An element of an array that is held as a value. -/
theorem run_index_agg (t e : TypeId) (n : Nat) (cs : List Value) (j : Nat) (v : Value) (h : P.underlying t = some (.array n e)) (hj : j < n) (hag : ∀ w, (isAgg e).run P w = .ok false w) (hsz : ∀ w, (sizeOf e).run P w = .ok 1 w) (hv : cs[j]? = some v) (w : World) :
    (Instr.index t (.agg cs.toArray) (.int .i64 (j : Int))).run P w = .ok v w := by
  have hjl : j < cs.length := by
    rcases Nat.lt_or_ge j cs.length with h | h
    · exact h
    · simp [List.getElem?_eq_none h] at hv
  have hp : (part e cs.toArray j).run P w = .ok v w := by
    simp only [part, Sem.run_bind, hsz, hag, Result.andThen_ok]
    simp [hv]
  have h0 : (0 ≤ (j : Int) ∧ (j : Int) < (n : Int)) := ⟨by omega, by omega⟩
  simp [Instr.index, asIntOf, run_underlying h, h0, hsz, hp, Result.andThen]
  omega
/-- A result that lies in a block. -/
theorem res_arr {fn : Func} {p : Tmp} {ty : TypeId} (h : fn.results = #[.cell p ty]) (tmps : Array Value) (w : World) (g : Nat) (hp : tmps.getD p undef = .pointer (some ⟨g, 0, none⟩))
    {T : TypeId} {xs : List Value} (ha : Arr w g T xs) {n : Nat} {e : TypeId} (hu : P.underlying ty = some (.array n e)) (hi : (P.info? ty).map (·.size) = some n) (hl : xs.length = n) : (results fn tmps).run P w = .ok (.agg xs.toArray) w :=
  results_cell_row h tmps w g T xs.toArray (0, 0) _ hp ha hu rfl (by rw [hi]; simp [hl])
end

end Go.Proofs.Ytefhhfpdponabaa
