/- Rows of memory: a block whose first cells are known, none frozen; what appending within its capacity, new blocks and writes elsewhere do to it. For every program. -/
import Derived.Test.YtmlmdidaldcoiaaGreatDoorRows
import Derived.Test.YtmlmdidaldcoiaaGreatDoorProg
import Derived.WalkKit
import Derived.ArgAppend
import Derived.Deep.Upon
import Derived.Lib.Hide
import Derived.Laws.IdiomStrings
import Derived.Deep.QuietTactic
import Derived.BigQuiet
import Derived.Deep.RegionLaw
import Derived.ProofKit
import Derived.OpenShut
import Derived.ChangeOld
import Derived.Laws.Rows
import Derived.Laws.Tables
import Derived.WalkSpells
import Derived.WalkLawsBesides
import Derived.Outline
import Derived.LaidMore
import Derived.Lib.LaidTab
import Derived.Stop.Joined
import Derived.OneCell
import Derived.Laws.StructEq
import Derived.Deep.RegionHeld3
import Derived.StillTailTactics
import Derived.Shelf.Unicode.ValidAny
import Derived.Lib.LaidU8T
import Derived.Shelf.Strconv.Itoa3
import Derived.Lib.AppendIntMem
import Derived.Stop.LaidErr
import GoSem.PinnedTables
import Derived.Lay
import Derived.KernelRfl
namespace Go.Proofs.YtmlmdidaldcoiaaGreatDoor
open Go Go.RowKit
set_option linter.unusedVariables false
set_option linter.unusedSimpArgs false

/-- Block g is a row of at least 'cap' cells of type T, none of these frozen, of which the first are xs. -/
def Row (w : World) (g : Nat) (T : TypeId) (cap : Nat) (xs : List Value) : Prop :=
 ∃ (cur : Array Value) (fr : Nat × Nat), w.heap[g]? = some (.cells cur T fr) ∧ cap ≤ cur.size ∧ xs.length ≤ cap ∧ cur.toList.take xs.length = xs ∧ (fr = (0, 0) ∨ cap ≤ fr.1)

theorem Row.cellAt {w : World} {g : Nat} {T : TypeId} {cap : Nat} {xs : List Value} (h : Row w g T cap xs) {j : Nat} {u : Value} (hj : xs[j]? = some u) : w.cell? ⟨g, j, none⟩ = some u := by
 obtain ⟨cur, fr, hh, hc, hl, ht, hf⟩ := h
 have hlt : j < xs.length := by
  rcases Nat.lt_or_ge j xs.length with h | h
  ·exact h
  ·simp [List.getElem?_eq_none h] at hj
 have : cur[j]? = some u := by
  rw [← hj, ← ht, List.getElem?_take, if_pos (by omega)]
  simp
 simp [World.cell?, hh, this]
/-- What 'make' leaves is a row. -/
theorem Row.of_owns {w : World} {base g n k cap : Nat} {e : TypeId} {xs : List Value} (h : w.ownsRow base e 1 (.slice (some ⟨g, 0, none⟩) k cap) n xs) : Row w g e cap xs ∧ xs.length = n ∧ base ≤ g ∧ cap ≤ maxLen ∧ k = n := by
 obtain ⟨hl, h | ⟨g', cap', cur, hv, hg, hh, hn, hm, hs, ht⟩⟩ := h
 ·simp at h
 ·simp only [Value.slice.injEq, Option.some.injEq, Addr.mk.injEq] at hv
  obtain ⟨⟨rfl, _⟩, rfl, rfl⟩ := hv
  have e1 : xs.length = k := by simpa using hl
  refine ⟨⟨cur, (0, 0), hh, by simp at hs; omega, by omega, ?_, .inl rfl⟩, e1, hg, hm, rfl⟩
  rw [e1]; simpa using ht

theorem gtrans {a b c : World} {row : Option Nat} (h : a.grownBy b row) (k : b.grownBy c row) : a.grownBy c row :=
 ⟨k.os.trans h.os, k.tape.trans h.tape, k.output.trans h.output, Nat.le_trans h.size k.size, fun i hi hne => (k.block i (Nat.lt_of_lt_of_le hi h.size) hne).trans (h.block i hi hne)⟩
theorem galloc (w : World) (o : Obj) (row : Option Nat) : w.grownBy (w.alloc o) row :=
 ⟨rfl, rfl, rfl, by simp, fun k hk _ => Below.heap_alloc w o k hk⟩
/-- What is written in a block that is new to the first world leaves that one's blocks as they are. -/
theorem gbelow {W a b : World} {B g : Nat} (h : Below B W a) (k : a.grownBy b (some g)) (hB : B ≤ a.heap.size) (hg : B ≤ g) : Below B W b :=
 h.grown k hB (fun _ e => by cases e; exact hg)

/-- 'string(b)' of a row of bytes. -/
theorem conv_row {P : Program} (w : World) (src dst e : TypeId) (g : Nat) (T : TypeId) (k cap : Nat) {cap' : Nat} (l : List UInt8) (hk : l.length = k) (hr : Row w g T cap' (l.map fun b => Value.int .u8 (b.toNat : Int)))
  (hs : P.underlying src = some (.slice e)) (he : P.underlying e = some (.int .u8)) (hd : P.underlying dst = some .string) :
  (convert src dst (.slice (some ⟨g, 0, none⟩) k cap)).run P w = .ok (.string ⟨l.toArray⟩) w := by
 subst hk
 refine run_convert_bytes_back w src dst e ⟨g, 0, none⟩ cap l hs he hd fun j hj => ?_
 rw [Addr.add_lit]
 simpa using hr.cellAt (j := j) (u := .int .u8 (l[j].toNat : Int)) (by simp [hj])
/-- 'string(b)' of bytes that the call owns. -/
theorem conv_owns {P : Program} (w : World) (src dst e : TypeId) (base n : Nat) (v : Value) (l : List UInt8) (h : w.ownsRow base e 1 v n (l.map fun b => Value.int .u8 (b.toNat : Int)))
  (hs : P.underlying src = some (.slice e)) (he : P.underlying e = some (.int .u8)) (hd : P.underlying dst = some .string) :
  (convert src dst v).run P w = .ok (.string ⟨l.toArray⟩) w := by
 obtain ⟨hl, ⟨rfl, rfl⟩ | ⟨g, cap, cur, rfl, r⟩⟩ := h
 ·have : l = [] := List.length_eq_zero_iff.1 (by simpa using hl)
  subst this
  rw [run_convert_bytes_string w src dst e none 0 0 hs he hd]
  simp [Conv.bytesToString]
  rfl
 ·have h' : w.ownsRow base e 1 (.slice (some ⟨g, 0, none⟩) n cap) n (l.map fun b => Value.int .u8 (b.toNat : Int)) := ⟨hl, .inr ⟨g, cap, cur, rfl, r⟩⟩
  obtain ⟨hr, hle, _⟩ := Row.of_owns h'
  exact conv_row w src dst e g e n cap l (by simpa using hle) hr hs he hd

/-- The cells of a new block. -/
theorem cells_new (w : World) (cur : Array Value) (t : TypeId) (news : List Value) (h : cur.toList = news) : ∀ j u, news[j]? = some u → (w.alloc (.cells cur t)).cell? ((⟨w.heap.size, 0, none⟩ : Addr).add j) = some u := by
 intro j u hj
 subst h
 rw [Addr.add_lit]
 have hb : (w.alloc (.cells cur t)).heap[w.heap.size]? = some (.cells cur t (0, 0)) := by show (w.heap.push _)[w.heap.size]? = _; simp
 simp only [World.cell?, hb, Nat.zero_add]
 simpa using hj

/-- What is owned is owned behind a new block. -/
theorem obelow {B : Nat} {W a b : World} {e size n : Nat} {v : Value} {xs : List Value} (h : Below B W a) (hown : a.ownsRow B e size v n xs) (k : a.grownBy b v.ownBlock) (hB : B ≤ a.heap.size) : Below B W b := by
 refine h.grown k hB fun g hg => ?_
 obtain ⟨_, ⟨rfl, _⟩ | ⟨g', cap, cur, rfl, hb, _⟩⟩ := hown
 ·simp [Value.ownBlock] at hg
 ·simp [Value.ownBlock] at hg; omega

/-- What is owned stays owned while only new memory is made. -/
theorem owns_below {w w' : World} {B e size n : Nat} {v : Value} {xs : List Value} (h : w.ownsRow B e size v n xs) (hb : Below w.heap.size w w') : w'.ownsRow B e size v n xs := by
 obtain ⟨h1, h2 | ⟨g, cap, cur, hv, hg, hh, r⟩⟩ := h
 ·exact ⟨h1, .inl h2⟩
 ·exact ⟨h1, .inr ⟨g, cap, cur, hv, hg, (hb.block g (lt_of_block hh)).trans hh, r⟩⟩

/-- A slice of integers that came in: nil; or it leads to 'cap' cells, the numbers zs, of which the first 'len' are its elements. -/
def IsRow (k : IntKind) (w : World) (a : Option Addr) (len cap : Nat) (zs : List Int) : Prop :=
 len ≤ cap ∧ cap ≤ maxLen ∧ zs.length = cap ∧ (∀ i, i < cap → ∃ b off, a = some ⟨b, off, none⟩ ∧ b < w.heap.size ∧ w.cell? ⟨b, off + i, none⟩ = some (.int k (zs.getD i 0))) ∧ ∀ n ∈ zs, (Lit.int k n).wf = true

theorem cell_lt {w : World} {a : Addr} {v : Value} (h : w.cell? a = some v) : a.block < w.heap.size := by
 rcases Nat.lt_or_ge a.block w.heap.size with h' | h'
 ·exact h'
 ·simp [World.cell?, Array.getElem?_eq_none h'] at h

open Go.ChangeShapes Go.WideShapes Go.ChangeAt in
theorem isRow_open {H : Type} {enc : TypeId × Value → H} {P : Program} {W : World} {t e : TypeId} {k : IntKind} {a : Option Addr} {len cap : Nat} {d : DataW H} {p : List MemPlace}
  (ht : P.underlying t = some (.slice e)) (he : P.underlying e = some (.int k)) (hce : P.cellsOf e = 1) (h : DataW.Trod enc P W 0 (fun _ => true) true t (.slice a len cap) d p) : ∃ zs, IsRow k W a len cap zs := by
 obtain ⟨fuel, hf⟩ := h
 rcases open_ints ht he hce hf with ⟨hcs, _⟩ | ⟨x, l, c, zs, hcs, _, hl, hm, hz, _, hcell, hwz⟩
 ·simp [Value.cells] at hcs
  obtain ⟨rfl, rfl, rfl⟩ := hcs
  exact ⟨[], Nat.le_refl _, Nat.zero_le _, rfl, fun i hi => absurd hi (Nat.not_lt_zero _), fun n hn => by cases hn⟩
 ·simp [Value.cells] at hcs
  obtain ⟨rfl, rfl, rfl⟩ := hcs
  refine ⟨zs, hl, hm, by simpa using hz, fun i hi => ?_, hwz⟩
  have hz' : zs.length = cap := by simpa using hz
  have hc := hcell i (by omega)
  have hc0 := hcell 0 (by omega)
  obtain ⟨b, off, spot⟩ := x
  have hspot : spot = none := by simpa [Addr.add] using World.cell?_spot hc0
  subst hspot
  rw [Addr.add_lit] at hc
  exact ⟨b, off, rfl, cell_lt hc, hc⟩

end Go.Proofs.YtmlmdidaldcoiaaGreatDoor
/- Arrays in blocks of their own: a block whose cells are all known, none frozen; what loads, stores and copies of the whole array do to it. For every program. -/
namespace Go.Proofs.YtmlmdidaldcoiaaGreatDoor
open Go Go.RowKit
set_option linter.unusedVariables false
set_option linter.unusedSimpArgs false

/-- Block g is just these cells, of type T, none frozen. -/
def Arr (w : World) (g : Nat) (T : TypeId) (xs : List Value) : Prop := w.heap[g]? = some (.cells xs.toArray T (0, 0))

theorem Arr.cellAt {w : World} {g : Nat} {T : TypeId} {xs : List Value} (h : Arr w g T xs) {j : Nat} {u : Value} (hj : xs[j]? = some u) : w.cell? ⟨g, j, none⟩ = some u := by
 rw [cell_of_row w g j _ _ _ h]; simpa using hj
theorem Arr.free {w : World} {g : Nat} {T : TypeId} {xs : List Value} (h : Arr w g T xs) (j : Nat) : w.frozen? ⟨g, j, none⟩ = false := frozen_of_row w g j _ _ h
theorem Arr.new (w : World) (xs : List Value) (T : TypeId) : Arr (w.alloc (.cells xs.toArray T)) w.heap.size T xs := heap_alloc_new w _
theorem Arr.store {w : World} {g : Nat} {T : TypeId} {xs : List Value} (h : Arr w g T xs) (j : Nat) (v : Value) : Arr (w.setCell ⟨g, j, none⟩ v) g T (xs.set j v) := by
 unfold Arr
 rw [heap_setCell_same w g j _ _ v h]
 simp

section
variable {P : Program}
end

end Go.Proofs.YtmlmdidaldcoiaaGreatDoor
/- The plain mathematics of base 64 digits: the alphabet, the table of values, and what both say of one another. Nothing of the program is imported. -/
namespace Go.Proofs.YtmlmdidaldcoiaaGreatDoor
open Go
set_option linter.unusedVariables false
set_option linter.unusedSimpArgs false

/-- Bytes as memory holds them. -/
def bytesV (l : List UInt8) : List Value := l.map fun b => Value.int .u8 (b.toNat : Int)

theorem bytesV_append (a b : List UInt8) : bytesV (a ++ b) = bytesV a ++ bytesV b := by simp [bytesV]

where byts (n : Nat) : List UInt8 := [UInt8.ofNat (n / 65536), UInt8.ofNat (n / 256), UInt8.ofNat n]

end Go.Proofs.YtmlmdidaldcoiaaGreatDoor
/- Contracts of the functions of package base64 (Value, Digit, appendDigits, readDigits, Encode, Decode, Number, Parse): what each returns, and that it changes no old memory. The table of values must read as the program lays it. -/
namespace Go.Proofs.YtmlmdidaldcoiaaGreatDoor
open Go.ChangeShapes Go.WideShapes Go.ChangeAt Go.RowKit
set_option linter.unusedVariables false
set_option linter.unusedSimpArgs false

theorem Tryz.info5 : (Tryz.prog.info? 5).map (fun i => (i.zero, i.size, i.bytes)) = some (some (.int .u8 0), 1, 1) := by kernel_rfl

end Go.Proofs.YtmlmdidaldcoiaaGreatDoor
/- Contracts of the small helpers: Mod, and the sanity check 'awake' of the statements of base64; the table of values out of what the rows list. -/
namespace Go.Proofs.YtmlmdidaldcoiaaGreatDoor
open Go.ChangeShapes Go.WideShapes Go.ChangeAt Go.RowKit
set_option linter.unusedVariables false
set_option linter.unusedSimpArgs false

/-- Mod with a positive modulus is Euclid's remainder. -/
theorem mod_any (n : Int) (m : Nat) (w : World) (h1 : 1 ≤ m) (hm : m < 2 ^ 62) (hlo : -9223372036854775808 ≤ n) (hhi : n ≤ 9223372036854775807) :
  Calls Tryz.prog 10 #[.int .i64 n, .int .i64 m] w fun e w' => e = .returned (.int .i64 (n % (m : Int))) ∧ w = w' := by
 obtain ⟨r, hr⟩ : ∃ r, r = n.tmod (m : Int) := ⟨_, rfl⟩
 have h0 : ¬ (m : Int) = 0 := by omega
 have hr1 : -(m : Int) < r := by
  rw [hr]
  have a1 := Int.lt_tmod_of_pos n (b := (m : Int)) (by omega)
  omega
 have hr2 : r < (m : Int) := by rw [hr]; exact Int.tmod_lt_of_pos n (by omega)
 have hfin : (r + (m : Int)) % (m : Int) = n % (m : Int) := by
  rw [hr, Int.add_emod_right, Int.tmod_eq_emod]
  split
  ·simp
  ·rw [Int.sub_emod]
   simp
 have hfin2 : r % (m : Int) = n % (m : Int) := by rw [← hfin]; simp
 have HF2 := Lib.hid hfin2
 have HF := Lib.hid hfin
 have hr' : n.tmod (m : Int) = r := hr.symm
 have hmz : ((m : Int) == 0) = false := by simp; omega
 clear hr hfin hfin2
 by_cases hn : 0 ≤ n
 ·have hr3 : n % (m : Int) = r := by rw [← hr', Int.tmod_eq_emod, if_pos (.inl hn)]; simp
  go_enter Tryz.func10, Tryz.ntmps10
  go_wp2
  go_ret
  first | (rw [HF.out]; exact ⟨rfl, rfl⟩) | (rw [HF2.out]; exact ⟨rfl, rfl⟩)
 ·go_enter Tryz.func10, Tryz.ntmps10
  go_wp2
  go_ret
  first | (rw [HF.out]; exact ⟨rfl, rfl⟩) | (rw [HF2.out]; exact ⟨rfl, rfl⟩)

end Go.Proofs.YtmlmdidaldcoiaaGreatDoor
/- Slices of numbers, of primitives and of groups as a walk reads them, whoever made them: all blocks lie below B. For every program. And groups as plain data: what is permitted, what follows its pattern, marks. -/
namespace Go.Proofs.YtmlmdidaldcoiaaGreatDoor
open Go Go.RowKit
set_option linter.unusedVariables false
set_option linter.unusedSimpArgs false

/-- A slice of the numbers l. -/
def IntsAt (B : Nat) (w : World) (v : Value) (l : List Int) : Prop :=
 ∃ ao cap, v = .slice ao l.length cap ∧ l.length ≤ cap ∧ ∀ j, j < l.length → ∃ b off, ao = some ⟨b, off, none⟩ ∧ b < B ∧ w.cell? ⟨b, off + j, none⟩ = some (.int .i64 (l.getD j 0))
section
variable {B C : Nat} {w w' : World} {v : Value}
theorem cell_same {b o : Nat} (hb : w'.heap[b]? = w.heap[b]?) : w'.cell? ⟨b, o, none⟩ = w.cell? ⟨b, o, none⟩ := by simp only [World.cell?, hb]
theorem IntsAt.same {l : List Int} (h : IntsAt B w v l) (hb : ∀ j, j < B → w'.heap[j]? = w.heap[j]?) (hC : B ≤ C) : IntsAt C w' v l := by
 obtain ⟨ao, cap, h1, h2, h3⟩ := h
 refine ⟨ao, cap, h1, h2, fun j hj => ?_⟩
 obtain ⟨b, off, e, hB, hc⟩ := h3 j hj
 exact ⟨b, off, e, by omega, by rw [cell_same (hb b hB)]; exact hc⟩
theorem IntsAt.below {l : List Int} (h : IntsAt B w v l) (hb : Below B w w') : IntsAt B w' v l := h.same hb.block (Nat.le_refl _)
end

def badMark (k n : Int) : Prop := k < 1 ∨ 4 < k ∨ n < 0 ∨ 4095 < n
instance (k n : Int) : Decidable (badMark k n) := by unfold badMark; infer_instance

end Go.Proofs.YtmlmdidaldcoiaaGreatDoor
/- Contract of the document's own Decode of primitive. -/
namespace Go.Proofs.YtmlmdidaldcoiaaGreatDoor
open Go.ChangeShapes Go.WideShapes Go.ChangeAt Go.RowKit
set_option linter.unusedVariables false
set_option linter.unusedSimpArgs false

theorem two_of {w : World} {g : Nat} {u v : Value} {T : TypeId} (h : w.heap[g]? = some (.cells #[u, v] T (0, 0))) : w.cell? ⟨g, 0, none⟩ = some u ∧ w.cell? ⟨g, 1, none⟩ = some v := by
 constructor <;> simp [World.cell?, h]
theorem two_set0 {w : World} {g : Nat} {u v : Value} {T : TypeId} (h : w.heap[g]? = some (.cells #[u, v] T (0, 0))) (x : Value) : (w.setCell ⟨g, 0, none⟩ x).heap[g]? = some (.cells #[x, v] T (0, 0)) := by
 have hlt := lt_of_block h
 have h' : w.heap[g] = .cells #[u, v] T (0, 0) := by simpa [Array.getElem?_eq_getElem hlt] using h
 show (w.heap.modify g _)[g]? = _
 rw [Array.getElem?_eq_getElem (by simpa using hlt), Array.getElem_modify_self, h']
 rfl
theorem two_set1 {w : World} {g : Nat} {u v : Value} {T : TypeId} (h : w.heap[g]? = some (.cells #[u, v] T (0, 0))) (x : Value) : (w.setCell ⟨g, 1, none⟩ x).heap[g]? = some (.cells #[u, x] T (0, 0)) := by
 have hlt := lt_of_block h
 have h' : w.heap[g] = .cells #[u, v] T (0, 0) := by simpa [Array.getElem?_eq_getElem hlt] using h
 show (w.heap.modify g _)[g]? = _
 rw [Array.getElem?_eq_getElem (by simpa using hlt), Array.getElem_modify_self, h']
 rfl
/-- Both cells of a block that is written whole. -/
theorem two_put {w : World} {g : Nat} {u v : Value} {T : TypeId} (h : w.heap[g]? = some (.cells #[u, v] T (0, 0))) (x y : Value) : (w.setCell ⟨g, 0, none⟩ x).cell? ⟨g, 0, none⟩ = some x ∧ ((w.setCell ⟨g, 0, none⟩ x).setCell ⟨g, 1, none⟩ y).cell? ⟨g, 1, none⟩ = some y :=
 ⟨(two_of (two_set0 h x)).1, (two_of (two_set1 (two_set0 h x) y)).2⟩

theorem free_two {w : World} {g : Nat} {u v : Value} {T : TypeId} (h : w.heap[g]? = some (.cells #[u, v] T (0, 0))) : w.frozen? ⟨g, 0, none⟩ = false ∧ w.frozen? ⟨g, 1, none⟩ = false := by
 constructor <;> simp [World.frozen?, h]

end Go.Proofs.YtmlmdidaldcoiaaGreatDoor
/- Contracts of the small functions of package primitive: layoutOf, lead, size, Code, Raw, Size. The table of layouts must read as the program lays it. -/
namespace Go.Proofs.YtmlmdidaldcoiaaGreatDoor
open Go.ChangeShapes Go.WideShapes Go.ChangeAt Go.RowKit
set_option linter.unusedVariables false
set_option linter.unusedSimpArgs false

theorem w64 (n : Int) (h : -9223372036854775808 ≤ n ∧ n ≤ 9223372036854775807) : IntKind.i64.wrap n = n := by rw [IntKind.wrap_i64]; omega

end Go.Proofs.YtmlmdidaldcoiaaGreatDoor
/- utf8.ValidString in the numbers of this program: a theorem of the library, proved once over any program; here the kernel compares the bodies and types. -/
namespace Go.Proofs.YtmlmdidaldcoiaaGreatDoor
open Go.Shelf Go.RowKit Go.Lib
set_option linter.unusedVariables false

def uren : Go.Shelf.Ren := ⟨fun | 196 => 97 | 259 => 123 | n => n, fun | 0 => 0 | 3 => 3 | 4 => 4 | 5 => 5 | 9 => 9 | 12 => 12 | 46 => 92 | 53 => 106 | 119 => 144 | 138 => 146 | 139 => 147 | n => n, fun | 3 => 0 | 4 => 1 | n => n⟩
theorem lays196 : Go.Proofs.Lays.n196 Tryz.prog uren := {
 mixed := by kernel_rfl
 f196 := Tryz.func97.trans (congrArg some (by kernel_rfl))
 f259 := Tryz.func123.trans (congrArg some (by kernel_rfl))
 t0 := Tryz.underlying0
 a0 := Tryz.isAgg0
 z0 := Tryz.sizeOf0
 v0 := Tryz.zeroValue0
 t3 := Tryz.underlying3
 a3 := Tryz.isAgg3
 z3 := Tryz.sizeOf3
 v3 := Tryz.zeroValue3
 t4 := Tryz.underlying4
 a4 := Tryz.isAgg4
 z4 := Tryz.sizeOf4
 v4 := Tryz.zeroValue4
 t5 := Tryz.underlying5
 a5 := Tryz.isAgg5
 z5 := Tryz.sizeOf5
 v5 := Tryz.zeroValue5
 t9 := Tryz.underlying9
 a9 := Tryz.isAgg9
 z9 := Tryz.sizeOf9
 v9 := Tryz.zeroValue9
 t12 := Tryz.underlying12
 a12 := Tryz.isAgg12
 z12 := Tryz.sizeOf12
 v12 := Tryz.zeroValue12
 t46 := Tryz.underlying92
 a46 := Tryz.isAgg92
 z46 := Tryz.sizeOf92
 v46 := Tryz.zeroValue92
 t53 := Tryz.underlying106
 a53 := Tryz.isAgg106
 z53 := Tryz.sizeOf106
 v53 := Tryz.zeroValue106
 t119 := Tryz.underlying144
 a119 := Tryz.isAgg144
 z119 := Tryz.sizeOf144
 t138 := Tryz.underlying146
 a138 := Tryz.isAgg146
 z138 := Tryz.sizeOf146
 v138 := Tryz.zeroValue146
 t139 := Tryz.underlying147
 a139 := Tryz.isAgg147
 z139 := Tryz.sizeOf147
 v139 := Tryz.zeroValue147
 g3 := by kernel_rfl
 g4 := by kernel_rfl
}
theorem uextra : U8Extra Tryz.prog uren := ⟨by kernel_rfl, by kernel_rfl, by kernel_rfl, by kernel_rfl, by kernel_rfl, by kernel_rfl, by kernel_rfl⟩
/-- The two tables of unicode/utf8 lie. -/
def Utab (w : World) : Prop := Lib.Utf8Tabs 0 1 w
theorem Utab.of {w : World} (h3 : VarReads Tryz.prog w "unicode/utf8.first" firstData) (h4 : VarReads Tryz.prog w "unicode/utf8.acceptRanges" acceptData) : Utab w := utf8Tabs_of_readsT (U8Types.of196 lays196) uextra h3 h4
theorem valid_any (s : ByteArray) (w : World) (hs : s.size ≤ maxLen) (hT : Utab w) : Calls Tryz.prog 97 #[.string s] w fun e w' => e = .returned (.bool (Lib.validD s.data.toList)) ∧ Below w.heap.size w w' :=
 Any.utf8_ValidString lays196 s w (Nat.le_trans hs (by decide)) hT

end Go.Proofs.YtmlmdidaldcoiaaGreatDoor
/- strconv.Itoa in the numbers of this program: a theorem of the library, proved once over any program; here the kernel compares the bodies and types. -/
namespace Go.Proofs.YtmlmdidaldcoiaaGreatDoor
open Go.Shelf Go.RowKit Go.Lib
set_option linter.unusedVariables false

def iren : Go.Shelf.Ren := ⟨fun | 129 => 142 | 171 => 77 | 243 => 112 | 246 => 90 | 283 => 114 | 284 => 115 | 285 => 116 | 286 => 117 | 317 => 141 | 318 => 143 | 319 => 144 | 320 => 145 | 337 => 171 | 338 => 172 | n => n, fun | 0 => 0 | 2 => 2 | 3 => 3 | 4 => 4 | 5 => 5 | 9 => 9 | 20 => 20 | 37 => 54 | 46 => 92 | 51 => 137 | 53 => 106 | 171 => 132 | 173 => 135 | 212 => 184 | 213 => 185 | 232 => 237 | 233 => 238 | n => n, fun | 17 => 2 | 18 => 7 | 19 => 8 | n => n⟩
theorem lays171 : Go.Proofs.LaysM.n171 Tryz.prog iren := {
 mixed := by kernel_rfl
 f129 := Tryz.func142.trans (congrArg some (by kernel_rfl))
 f171 := Tryz.func77.trans (congrArg some (by kernel_rfl))
 f243 := Tryz.func112.trans (congrArg some (by kernel_rfl))
 f246 := Tryz.func90.trans (congrArg some (by kernel_rfl))
 f283 := Tryz.func114.trans (congrArg some (by kernel_rfl))
 f284 := Tryz.func115.trans (congrArg some (by kernel_rfl))
 f285 := Tryz.func116.trans (congrArg some (by kernel_rfl))
 f286 := Tryz.func117.trans (congrArg some (by kernel_rfl))
 f317 := Tryz.func141.trans (congrArg some (by kernel_rfl))
 f318 := Tryz.func143.trans (congrArg some (by kernel_rfl))
 f319 := Tryz.func144.trans (congrArg some (by kernel_rfl))
 f320 := Tryz.func145.trans (congrArg some (by kernel_rfl))
 f337 := Tryz.func171.trans (congrArg some (by kernel_rfl))
 f338 := Tryz.func172.trans (congrArg some (by kernel_rfl))
 t0 := Tryz.underlying0
 a0 := Tryz.isAgg0
 z0 := Tryz.sizeOf0
 v0 := Tryz.zeroValue0
 t2 := Tryz.underlying2
 a2 := Tryz.isAgg2
 z2 := Tryz.sizeOf2
 v2 := Tryz.zeroValue2
 t3 := Tryz.underlying3
 a3 := Tryz.isAgg3
 z3 := Tryz.sizeOf3
 v3 := Tryz.zeroValue3
 t4 := Tryz.underlying4
 a4 := Tryz.isAgg4
 z4 := Tryz.sizeOf4
 v4 := Tryz.zeroValue4
 t5 := Tryz.underlying5
 a5 := Tryz.isAgg5
 z5 := Tryz.sizeOf5
 v5 := Tryz.zeroValue5
 t9 := Tryz.underlying9
 a9 := Tryz.isAgg9
 z9 := Tryz.sizeOf9
 v9 := Tryz.zeroValue9
 t20 := Tryz.underlying20
 a20 := Tryz.isAgg20
 z20 := Tryz.sizeOf20
 v20 := Tryz.zeroValue20
 t37 := Tryz.underlying54
 a37 := Tryz.isAgg54
 z37 := Tryz.sizeOf54
 v37 := Tryz.zeroValue54
 t46 := Tryz.underlying92
 a46 := Tryz.isAgg92
 z46 := Tryz.sizeOf92
 v46 := Tryz.zeroValue92
 t51 := Tryz.underlying137
 a51 := Tryz.isAgg137
 z51 := Tryz.sizeOf137
 v51 := Tryz.zeroValue137
 t53 := Tryz.underlying106
 a53 := Tryz.isAgg106
 z53 := Tryz.sizeOf106
 v53 := Tryz.zeroValue106
 t171 := Tryz.underlying132
 a171 := Tryz.isAgg132
 z171 := Tryz.sizeOf132
 v171 := Tryz.zeroValue132
 t173 := Tryz.underlying135
 a173 := Tryz.isAgg135
 z173 := Tryz.sizeOf135
 v173 := Tryz.zeroValue135
 t212 := Tryz.underlying184
 a212 := Tryz.isAgg184
 z212 := Tryz.sizeOf184
 v212 := Tryz.zeroValue184
 t213 := Tryz.underlying185
 a213 := Tryz.isAgg185
 z213 := Tryz.sizeOf185
 t232 := Tryz.underlying237
 a232 := Tryz.isAgg237
 z232 := Tryz.sizeOf237
 v232 := Tryz.zeroValue237
 t233 := Tryz.underlying238
 a233 := Tryz.isAgg238
 z233 := Tryz.sizeOf238
 v233 := Tryz.zeroValue238
 g17 := by kernel_rfl
 g18 := by kernel_rfl
 g19 := by kernel_rfl
 i0 := by kernel_rfl
 i2 := by kernel_rfl
 i3 := by kernel_rfl
 i4 := by kernel_rfl
 i5 := by kernel_rfl
 i9 := by kernel_rfl
 i20 := by kernel_rfl
 i37 := by kernel_rfl
 i46 := by kernel_rfl
 i51 := by kernel_rfl
 i53 := by kernel_rfl
 i171 := by kernel_rfl
 i173 := by kernel_rfl
 i212 := by kernel_rfl
 i232 := by kernel_rfl
 i233 := by kernel_rfl
 m17 := by kernel_rfl
 m18 := by kernel_rfl
 m19 := by kernel_rfl
}
/-- The table of powers of ten lies. -/
def Itab (w : World) : Prop := Lib.TabIs Tryz.prog w "internal/strconv.uint64pow10" .u64 Lib.pow10Tab
theorem Itab.below {w w' : World} (h : Itab w) (hb : Below w.heap.size w w') : Itab w' := Lib.tabBelow_of_tabIs h w' hb
theorem itoa_any (n : Int) (h0 : -9223372036854775808 ≤ n) (h1 : n ≤ 9223372036854775807) (w : World) (hT : Itab w) : Calls Tryz.prog 77 #[.int .i64 n] w fun e w' => e = .returned (.string ⟨(Lib.itoa n).toArray⟩) ∧ Below w.heap.size w w' :=
 (Any.strconv_Itoa lays171 n h0 h1 w hT).mono fun e w' ⟨h, k, os, hw⟩ => ⟨h, by rw [hw]; exact Lib.below_grow _ w (Nat.le_refl _) k os⟩

end Go.Proofs.YtmlmdidaldcoiaaGreatDoor
/- The tables out of the rows' conditions; worlds that meet them. -/
namespace Go.Proofs.YtmlmdidaldcoiaaGreatDoor
open Go Go.RowKit Go.Shelf Go.Lib
set_option linter.unusedVariables false

theorem own : ownKnob Tryz.prog.godebug = none := by kernel_rfl
theorem laidOut : laidOutB Tryz.prog = true := by kernel_rfl
theorem jlaid_accept : (Rows.laid_unicode_utf8_acceptRanges : DataW Unit) = acceptData := by kernel_rfl
theorem jlaid_first : Rows.laid_unicode_utf8_first = firstData := by kernel_rfl
theorem jlaid_pow : (Rows.laid_internal_strconv_uint64pow10 : DataW Unit) = tabData .u64 Lib.pow10Tab := by kernel_rfl
theorem jitab_of {w : World} {r : List (String × DataW Unit)} (h : laidMet Tryz.prog (("internal/strconv.uint64pow10", Rows.laid_internal_strconv_uint64pow10) :: r) w) : Itab w := by
 rw [jlaid_pow] at h
 exact tabIs_of_head (g := 2) (t := 184) (e := 106) (n := 20) (by kernel_rfl) (by kernel_rfl) Tryz.underlying184 Tryz.underlying106 (by kernel_rfl) (by kernel_rfl) h
end Go.Proofs.YtmlmdidaldcoiaaGreatDoor
