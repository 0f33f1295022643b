/- Rows of memory: a block whose first cells are known, none frozen; what appending within its capacity, new blocks and writes elsewhere do to it. For every program. -/
import Derived.WalkKit
import Derived.ArgAppend
import Derived.Deep.Upon
import Derived.Lib.Hide
import Derived.Laws.IdiomStrings
import Derived.Deep.QuietTactic
import Derived.BigQuiet
import Derived.Deep.RegionLaw
import Derived.ProofKit
import Derived.OpenShut
import Derived.ChangeOld
namespace Go.Proofs.YtdppdonaojdceaaGreatDoor
open Go Go.RowKit
set_option linter.unusedVariables false
set_option linter.unusedSimpArgs false

/-- Block g is a row of at least 'cap' cells of type T, none of these frozen, of which the first are xs. -/
def Row (w : World) (g : Nat) (T : TypeId) (cap : Nat) (xs : List Value) : Prop :=
 ∃ (cur : Array Value) (fr : Nat × Nat), w.heap[g]? = some (.cells cur T fr) ∧ cap ≤ cur.size ∧ xs.length ≤ cap ∧ cur.toList.take xs.length = xs ∧ (fr = (0, 0) ∨ cap ≤ fr.1)

theorem Row.cellAt {w : World} {g : Nat} {T : TypeId} {cap : Nat} {xs : List Value} (h : Row w g T cap xs) {j : Nat} {u : Value} (hj : xs[j]? = some u) : w.cell? ⟨g, j, none⟩ = some u := by
 obtain ⟨cur, fr, hh, hc, hl, ht, hf⟩ := h
 have hlt : j < xs.length := by
  rcases Nat.lt_or_ge j xs.length with h | h
  ·exact h
  ·simp [List.getElem?_eq_none h] at hj
 have : cur[j]? = some u := by
  rw [← hj, ← ht, List.getElem?_take, if_pos (by omega)]
  simp
 simp [World.cell?, hh, this]
/-- What 'make' leaves is a row. -/
theorem Row.of_owns {w : World} {base g n k cap : Nat} {e : TypeId} {xs : List Value} (h : w.ownsRow base e 1 (.slice (some ⟨g, 0, none⟩) k cap) n xs) : Row w g e cap xs ∧ xs.length = n ∧ base ≤ g ∧ cap ≤ maxLen ∧ k = n := by
 obtain ⟨hl, h | ⟨g', cap', cur, hv, hg, hh, hn, hm, hs, ht⟩⟩ := h
 ·simp at h
 ·simp only [Value.slice.injEq, Option.some.injEq, Addr.mk.injEq] at hv
  obtain ⟨⟨rfl, _⟩, rfl, rfl⟩ := hv
  have e1 : xs.length = k := by simpa using hl
  refine ⟨⟨cur, (0, 0), hh, by simp at hs; omega, by omega, ?_, .inl rfl⟩, e1, hg, hm, rfl⟩
  rw [e1]; simpa using ht

theorem gtrans {a b c : World} {row : Option Nat} (h : a.grownBy b row) (k : b.grownBy c row) : a.grownBy c row :=
 ⟨k.os.trans h.os, k.tape.trans h.tape, k.output.trans h.output, Nat.le_trans h.size k.size, fun i hi hne => (k.block i (Nat.lt_of_lt_of_le hi h.size) hne).trans (h.block i hi hne)⟩
theorem galloc (w : World) (o : Obj) (row : Option Nat) : w.grownBy (w.alloc o) row :=
 ⟨rfl, rfl, rfl, by simp, fun k hk _ => Below.heap_alloc w o k hk⟩
/-- What is written in a block that is new to the first world leaves that one's blocks as they are. -/
theorem gbelow {W a b : World} {B g : Nat} (h : Below B W a) (k : a.grownBy b (some g)) (hB : B ≤ a.heap.size) (hg : B ≤ g) : Below B W b :=
 h.grown k hB (fun _ e => by cases e; exact hg)

/-- 'string(b)' of a row of bytes. -/
theorem conv_row {P : Program} (w : World) (src dst e : TypeId) (g : Nat) (T : TypeId) (k cap : Nat) {cap' : Nat} (l : List UInt8) (hk : l.length = k) (hr : Row w g T cap' (l.map fun b => Value.int .u8 (b.toNat : Int)))
  (hs : P.underlying src = some (.slice e)) (he : P.underlying e = some (.int .u8)) (hd : P.underlying dst = some .string) :
  (convert src dst (.slice (some ⟨g, 0, none⟩) k cap)).run P w = .ok (.string ⟨l.toArray⟩) w := by
 subst hk
 refine run_convert_bytes_back w src dst e ⟨g, 0, none⟩ cap l hs he hd fun j hj => ?_
 rw [Addr.add_lit]
 simpa using hr.cellAt (j := j) (u := .int .u8 (l[j].toNat : Int)) (by simp [hj])
/-- 'string(b)' of bytes that the call owns. -/
theorem conv_owns {P : Program} (w : World) (src dst e : TypeId) (base n : Nat) (v : Value) (l : List UInt8) (h : w.ownsRow base e 1 v n (l.map fun b => Value.int .u8 (b.toNat : Int)))
  (hs : P.underlying src = some (.slice e)) (he : P.underlying e = some (.int .u8)) (hd : P.underlying dst = some .string) :
  (convert src dst v).run P w = .ok (.string ⟨l.toArray⟩) w := by
 obtain ⟨hl, ⟨rfl, rfl⟩ | ⟨g, cap, cur, rfl, r⟩⟩ := h
 ·have : l = [] := List.length_eq_zero_iff.1 (by simpa using hl)
  subst this
  rw [run_convert_bytes_string w src dst e none 0 0 hs he hd]
  simp [Conv.bytesToString]
  rfl
 ·have h' : w.ownsRow base e 1 (.slice (some ⟨g, 0, none⟩) n cap) n (l.map fun b => Value.int .u8 (b.toNat : Int)) := ⟨hl, .inr ⟨g, cap, cur, rfl, r⟩⟩
  obtain ⟨hr, hle, _⟩ := Row.of_owns h'
  exact conv_row w src dst e g e n cap l (by simpa using hle) hr hs he hd
theorem bdrewN {B : Nat} {a w : World} (h : Below B a w) (n : Nat) : Below B a (w.drewN n) := ⟨h.os, h.tape, h.output, h.size, h.block⟩

/-- The cells of a new block. -/
theorem cells_new (w : World) (cur : Array Value) (t : TypeId) (news : List Value) (h : cur.toList = news) : ∀ j u, news[j]? = some u → (w.alloc (.cells cur t)).cell? ((⟨w.heap.size, 0, none⟩ : Addr).add j) = some u := by
 intro j u hj
 subst h
 rw [Addr.add_lit]
 have hb : (w.alloc (.cells cur t)).heap[w.heap.size]? = some (.cells cur t (0, 0)) := by show (w.heap.push _)[w.heap.size]? = _; simp
 simp only [World.cell?, hb, Nat.zero_add]
 simpa using hj

/-- What is owned is owned behind a new block. -/
theorem obelow {B : Nat} {W a b : World} {e size n : Nat} {v : Value} {xs : List Value} (h : Below B W a) (hown : a.ownsRow B e size v n xs) (k : a.grownBy b v.ownBlock) (hB : B ≤ a.heap.size) : Below B W b := by
 refine h.grown k hB fun g hg => ?_
 obtain ⟨_, ⟨rfl, _⟩ | ⟨g', cap, cur, rfl, hb, _⟩⟩ := hown
 ·simp [Value.ownBlock] at hg
 ·simp [Value.ownBlock] at hg; omega

/-- What is owned stays owned while only new memory is made. -/
theorem owns_below {w w' : World} {B e size n : Nat} {v : Value} {xs : List Value} (h : w.ownsRow B e size v n xs) (hb : Below w.heap.size w w') : w'.ownsRow B e size v n xs := by
 obtain ⟨h1, h2 | ⟨g, cap, cur, hv, hg, hh, r⟩⟩ := h
 ·exact ⟨h1, .inl h2⟩
 ·exact ⟨h1, .inr ⟨g, cap, cur, hv, hg, (hb.block g (lt_of_block hh)).trans hh, r⟩⟩

/-- A slice of integers that came in: nil; or it leads to 'cap' cells, the numbers zs, of which the first 'len' are its elements. -/
def IsRow (k : IntKind) (w : World) (a : Option Addr) (len cap : Nat) (zs : List Int) : Prop :=
 len ≤ cap ∧ cap ≤ maxLen ∧ zs.length = cap ∧ (∀ i, i < cap → ∃ b off, a = some ⟨b, off, none⟩ ∧ b < w.heap.size ∧ w.cell? ⟨b, off + i, none⟩ = some (.int k (zs.getD i 0))) ∧ ∀ n ∈ zs, (Lit.int k n).wf = true

theorem cell_lt {w : World} {a : Addr} {v : Value} (h : w.cell? a = some v) : a.block < w.heap.size := by
 rcases Nat.lt_or_ge a.block w.heap.size with h' | h'
 ·exact h'
 ·simp [World.cell?, Array.getElem?_eq_none h'] at h

open Go.ChangeShapes Go.WideShapes Go.ChangeAt in
theorem isRow_open {H : Type} {enc : TypeId × Value → H} {P : Program} {W : World} {t e : TypeId} {k : IntKind} {a : Option Addr} {len cap : Nat} {d : DataW H} {p : List MemPlace}
  (ht : P.underlying t = some (.slice e)) (he : P.underlying e = some (.int k)) (hce : P.cellsOf e = 1) (h : DataW.Trod enc P W 0 (fun _ => true) true t (.slice a len cap) d p) : ∃ zs, IsRow k W a len cap zs := by
 obtain ⟨fuel, hf⟩ := h
 rcases open_ints ht he hce hf with ⟨hcs, _⟩ | ⟨x, l, c, zs, hcs, _, hl, hm, hz, _, hcell, hwz⟩
 ·simp [Value.cells] at hcs
  obtain ⟨rfl, rfl, rfl⟩ := hcs
  exact ⟨[], Nat.le_refl _, Nat.zero_le _, rfl, fun i hi => absurd hi (Nat.not_lt_zero _), fun n hn => by cases hn⟩
 ·simp [Value.cells] at hcs
  obtain ⟨rfl, rfl, rfl⟩ := hcs
  refine ⟨zs, hl, hm, by simpa using hz, fun i hi => ?_, hwz⟩
  have hz' : zs.length = cap := by simpa using hz
  have hc := hcell i (by omega)
  have hc0 := hcell 0 (by omega)
  obtain ⟨b, off, spot⟩ := x
  have hspot : spot = none := by simpa [Addr.add] using World.cell?_spot hc0
  subst hspot
  rw [Addr.add_lit] at hc
  exact ⟨b, off, rfl, cell_lt hc, hc⟩

end Go.Proofs.YtdppdonaojdceaaGreatDoor
