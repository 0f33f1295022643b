/- Rows of memory: a block whose first cells are known, none frozen; what appending within its capacity, new blocks and writes elsewhere do to it. For every program. -/
import Derived.WalkKit
import Derived.ArgAppend
import Derived.Deep.Upon
import Derived.Lib.Hide
import Derived.Laws.IdiomStrings
import Derived.Deep.QuietTactic
import Derived.BigQuiet
import Derived.Deep.RegionLaw
import Derived.ProofKit
import Derived.OpenShut
import Derived.ChangeOld
namespace Go.Proofs.Ytefhhfpdponabaa
open Go Go.RowKit
set_option linter.unusedVariables false
set_option linter.unusedSimpArgs false

/-- Block g is a row of at least 'cap' cells of type T, none of these frozen, of which the first are xs. -/
def Row (w : World) (g : Nat) (T : TypeId) (cap : Nat) (xs : List Value) : Prop :=
  ∃ (cur : Array Value) (fr : Nat × Nat), w.heap[g]? = some (.cells cur T fr) ∧ cap ≤ cur.size ∧ xs.length ≤ cap ∧ cur.toList.take xs.length = xs ∧ (fr = (0, 0) ∨ cap ≤ fr.1)

theorem Row.lt {w : World} {g : Nat} {T : TypeId} {cap : Nat} {xs : List Value} (h : Row w g T cap xs) : g < w.heap.size := by
  obtain ⟨cur, fr, hh, _⟩ := h
  exact lt_of_block hh
theorem Row.le {w : World} {g : Nat} {T : TypeId} {cap : Nat} {xs : List Value} (h : Row w g T cap xs) : xs.length ≤ cap := by
  obtain ⟨_, _, _, _, h, _⟩ := h
  exact h
theorem Row.cellAt {w : World} {g : Nat} {T : TypeId} {cap : Nat} {xs : List Value} (h : Row w g T cap xs) {j : Nat} {u : Value} (hj : xs[j]? = some u) : w.cell? ⟨g, j, none⟩ = some u := by
  obtain ⟨cur, fr, hh, hc, hl, ht, hf⟩ := h
  have hlt : j < xs.length := by
    rcases Nat.lt_or_ge j xs.length with h | h
    · exact h
    · simp [List.getElem?_eq_none h] at hj
  have : cur[j]? = some u := by
    rw [← hj, ← ht, List.getElem?_take, if_pos (by omega)]
    simp
  simp [World.cell?, hh, this]
theorem Row.there {w : World} {g : Nat} {T : TypeId} {cap : Nat} {xs : List Value} (h : Row w g T cap xs) {j : Nat} (hj : j < cap) : (w.cell? ⟨g, j, none⟩).isSome = true ∧ w.frozen? ⟨g, j, none⟩ = false := by
  obtain ⟨cur, fr, hh, hc, hl, ht, hf⟩ := h
  constructor
  · simp [World.cell?, hh]; omega
  · rcases hf with rfl | hf
    · simp [World.frozen?, hh]
    · simp [World.frozen?, hh]; omega
theorem Row.of_block {w w' : World} {g : Nat} {T : TypeId} {cap : Nat} {xs : List Value} (h : Row w g T cap xs) (e : w'.heap[g]? = w.heap[g]?) : Row w' g T cap xs := by
  obtain ⟨cur, fr, hh, r⟩ := h
  exact ⟨cur, fr, e.trans hh, r⟩
theorem Row.alloc {w : World} {g : Nat} {T : TypeId} {cap : Nat} {xs : List Value} (h : Row w g T cap xs) (o : Obj) : Row (w.alloc o) g T cap xs :=
  h.of_block (Below.heap_alloc w o g h.lt)
theorem Row.drew {w : World} {g : Nat} {T : TypeId} {cap : Nat} {xs : List Value} (h : Row w g T cap xs) : Row w.drew g T cap xs := h
theorem Row.kept {w w' : World} {g : Nat} {T : TypeId} {cap : Nat} {xs : List Value} (h : Row w g T cap xs) {row : Option Nat} (hg : w.grownBy w' row) (hne : some g ≠ row) : Row w' g T cap xs :=
  h.of_block (hg.block g h.lt hne)
theorem Row.below {w w' : World} {g : Nat} {T : TypeId} {cap : Nat} {xs : List Value} (h : Row w g T cap xs) {B : Nat} (hb : Below B w w') (hg : g < B) : Row w' g T cap xs :=
  h.of_block (hb.block g hg)
/-- A new block is a row. -/
theorem Row.new (w : World) (cur : Array Value) (T : TypeId) (xs : List Value) (hl : xs.length ≤ cur.size) (ht : cur.toList.take xs.length = xs) : Row (w.alloc (.cells cur T)) w.heap.size T cur.size xs :=
  ⟨cur, (0, 0), by show (w.heap.push _)[w.heap.size]? = _; simp, Nat.le_refl _, hl, ht, .inl rfl⟩
/-- What 'make' leaves is a row. -/
theorem Row.of_owns {w : World} {base g n k cap : Nat} {e : TypeId} {xs : List Value} (h : w.ownsRow base e 1 (.slice (some ⟨g, 0, none⟩) k cap) n xs) : Row w g e cap xs ∧ xs.length = n ∧ base ≤ g ∧ cap ≤ maxLen ∧ k = n := by
  obtain ⟨hl, h | ⟨g', cap', cur, hv, hg, hh, hn, hm, hs, ht⟩⟩ := h
  · simp at h
  · simp only [Value.slice.injEq, Option.some.injEq, Addr.mk.injEq] at hv
    obtain ⟨⟨rfl, _⟩, rfl, rfl⟩ := hv
    have e1 : xs.length = k := by simpa using hl
    refine ⟨⟨cur, (0, 0), hh, by simp at hs; omega, by omega, ?_, .inl rfl⟩, e1, hg, hm, rfl⟩
    rw [e1]; simpa using ht

theorem Row.push {w : World} {g : Nat} {T : TypeId} {cap : Nat} {xs : List Value} (h : Row w g T cap xs) (hr : xs.length < cap) (v : Value) : Row (w.setCell ⟨g, xs.length, none⟩ v) g T cap (xs ++ [v]) := by
  have hlt := h.lt
  obtain ⟨cur, fr, hh, hc, hl, ht, hf⟩ := h
  refine ⟨cur.setIfInBounds xs.length v, fr, ?_, by simpa using hc, by simp; omega, ?_, hf⟩
  · have h' : w.heap[g] = .cells cur T fr := by simpa [Array.getElem?_eq_getElem hlt] using hh
    show (w.heap.modify g _)[g]? = _
    rw [Array.getElem?_eq_getElem (by simpa using hlt), Array.getElem_modify_self, h']
    rfl
  · apply List.ext_getElem?
    intro i
    simp only [List.length_append, List.length_singleton, List.getElem?_take, Array.toList_setIfInBounds]
    by_cases hi : i < xs.length
    · rw [if_pos (by omega), List.getElem?_set_ne (by omega), List.getElem?_append_left hi]
      have := congrArg (·[i]?) ht
      simp only [List.getElem?_take, if_pos hi] at this
      exact this
    · by_cases h2 : i = xs.length
      · subst h2
        rw [if_pos (by omega), List.getElem?_set_self (by simp; omega)]
        simp
      · rw [if_neg (by omega), List.getElem?_append_right (by omega)]
        symm
        apply List.getElem?_eq_none
        simp; omega

theorem Row.pushes {g : Nat} {T : TypeId} {cap : Nat} : ∀ (news : List Value) {w : World} {xs : List Value}, Row w g T cap xs → xs.length + news.length ≤ cap → Row (w.setCells g xs.length news) g T cap (xs ++ news)
  | [], w, xs, h, _ => by simpa [World.setCells] using h
  | v :: r, w, xs, h, hr => by
    have h1 := h.push (by simp at hr; omega) v
    have h2 := Row.pushes r h1 (by simp at hr ⊢; omega)
    simpa [World.setCells] using h2

/-- A store into a row. -/
theorem Row.store {w : World} {g : Nat} {T : TypeId} {cap : Nat} {xs : List Value} (h : Row w g T cap xs) (j : Nat) (v : Value) : Row (w.setCell ⟨g, j, none⟩ v) g T cap (xs.set j v) := by
  have hlt := h.lt
  obtain ⟨cur, fr, hh, hc, hl, ht, hf⟩ := h
  refine ⟨cur.setIfInBounds j v, fr, ?_, by simpa using hc, by simpa using hl, ?_, hf⟩
  · have h' : w.heap[g] = .cells cur T fr := by simpa [Array.getElem?_eq_getElem hlt] using hh
    show (w.heap.modify g _)[g]? = _
    rw [Array.getElem?_eq_getElem (by simpa using hlt), Array.getElem_modify_self, h']
    rfl
  · rw [List.length_set, Array.toList_setIfInBounds, List.take_set, ht]

theorem grownBy_setCells (w : World) (g o : Nat) (vs : List Value) : w.grownBy (w.setCells g o vs) (some g) := by
  have kept := World.keptBut_setCells g (may := fun p => p.block = g) vs o w (fun _ _ => rfl)
  refine ⟨kept.1, ?_, kept.2.1, ?_, fun k hk hne => World.heap_setCells_other w g o vs hk (fun e => hne (by rw [e]))⟩
  · clear kept
    induction vs generalizing w o with
    | nil => rfl
    | cons v r ih => exact (ih _ _).trans rfl
  · clear kept
    induction vs generalizing w o with
    | nil => exact Nat.le_refl _
    | cons v r ih => exact Nat.le_trans (by simp [World.setCell]) (ih _ _)

theorem gtrans {a b c : World} {row : Option Nat} (h : a.grownBy b row) (k : b.grownBy c row) : a.grownBy c row :=
  ⟨k.os.trans h.os, k.tape.trans h.tape, k.output.trans h.output, Nat.le_trans h.size k.size, fun i hi hne => (k.block i (Nat.lt_of_lt_of_le hi h.size) hne).trans (h.block i hi hne)⟩
theorem galloc (w : World) (o : Obj) (row : Option Nat) : w.grownBy (w.alloc o) row :=
  ⟨rfl, rfl, rfl, by simp, fun k hk _ => Below.heap_alloc w o k hk⟩
theorem gdrew {a w : World} {row : Option Nat} (h : a.grownBy w row) : a.grownBy w.drew row := ⟨h.os, h.tape, h.output, h.size, h.block⟩
/-- What is written in a block that is new to the first world leaves that one's blocks as they are. -/
theorem gbelow {W a b : World} {B g : Nat} (h : Below B W a) (k : a.grownBy b (some g)) (hB : B ≤ a.heap.size) (hg : B ≤ g) : Below B W b :=
  h.grown k hB (fun _ e => by cases e; exact hg)

/-- 'string(b)' of a row of bytes. -/
theorem conv_row {P : Program} (w : World) (src dst e : TypeId) (g : Nat) (T : TypeId) (k cap : Nat) {cap' : Nat} (l : List UInt8) (hk : l.length = k) (hr : Row w g T cap' (l.map fun b => Value.int .u8 (b.toNat : Int)))
    (hs : P.underlying src = some (.slice e)) (he : P.underlying e = some (.int .u8)) (hd : P.underlying dst = some .string) :
    (convert src dst (.slice (some ⟨g, 0, none⟩) k cap)).run P w = .ok (.string ⟨l.toArray⟩) w := by
  subst hk
  refine run_convert_bytes_back w src dst e ⟨g, 0, none⟩ cap l hs he hd fun j hj => ?_
  rw [Addr.add_lit]
  simpa using hr.cellAt (j := j) (u := .int .u8 (l[j].toNat : Int)) (by simp [hj])
/-- 'string(b)' of bytes that the call owns. -/
theorem conv_owns {P : Program} (w : World) (src dst e : TypeId) (base n : Nat) (v : Value) (l : List UInt8) (h : w.ownsRow base e 1 v n (l.map fun b => Value.int .u8 (b.toNat : Int)))
    (hs : P.underlying src = some (.slice e)) (he : P.underlying e = some (.int .u8)) (hd : P.underlying dst = some .string) :
    (convert src dst v).run P w = .ok (.string ⟨l.toArray⟩) w := by
  obtain ⟨hl, ⟨rfl, rfl⟩ | ⟨g, cap, cur, rfl, r⟩⟩ := h
  · have : l = [] := List.length_eq_zero_iff.1 (by simpa using hl)
    subst this
    rw [run_convert_bytes_string w src dst e none 0 0 hs he hd]
    simp [Conv.bytesToString]
    rfl
  · have h' : w.ownsRow base e 1 (.slice (some ⟨g, 0, none⟩) n cap) n (l.map fun b => Value.int .u8 (b.toNat : Int)) := ⟨hl, .inr ⟨g, cap, cur, rfl, r⟩⟩
    obtain ⟨hr, hle, _⟩ := Row.of_owns h'
    exact conv_row w src dst e g e n cap l (by simpa using hle) hr hs he hd
theorem Row.drewN {w : World} {g : Nat} {T : TypeId} {cap : Nat} {xs : List Value} (h : Row w g T cap xs) (n : Nat) : Row (w.drewN n) g T cap xs := h
theorem bdrewN {B : Nat} {a w : World} (h : Below B a w) (n : Nat) : Below B a (w.drewN n) := ⟨h.os, h.tape, h.output, h.size, h.block⟩

/-- The cells of a new block. -/
theorem cells_new (w : World) (cur : Array Value) (t : TypeId) (news : List Value) (h : cur.toList = news) : ∀ j u, news[j]? = some u → (w.alloc (.cells cur t)).cell? ((⟨w.heap.size, 0, none⟩ : Addr).add j) = some u := by
  intro j u hj
  subst h
  rw [Addr.add_lit]
  have hb : (w.alloc (.cells cur t)).heap[w.heap.size]? = some (.cells cur t (0, 0)) := by show (w.heap.push _)[w.heap.size]? = _; simp
  simp only [World.cell?, hb, Nat.zero_add]
  simpa using hj

/-- 'append' within a row's capacity. -/
theorem wpList_append_row {P : Program} (w : World) {ops : Array Oper} {rest : List Oper} {o : Oper} {a : Act} {Q : Exit → Act → World → Prop}
    (hgd : o.guard = none) (s x : Operand) (t : TypeId) (hop : o.op = Op.call { callee := Callee.builtin Builtin.append, args := #[s, x], argTypes := #[t, t] })
    (e : TypeId) (i : TypeInfo) (h1 : P.underlying t = some (.slice e)) (h2 : P.info? e = some i) (h4 : i.size = 1)
    (g : Nat) (T : TypeId) (k cap : Nat) (xs : List Value) (hs : a.eval s = .slice (some ⟨g, 0, none⟩) k cap) (hk : xs.length = k) (hrow : Row w g T cap xs)
    (ad : Addr) (m c : Nat) (news : List Value) (hx : a.eval x = .slice (some ad) m c) (hn : news.length = m) (hc : ∀ j u, news[j]? = some u → w.cell? (ad.add j) = some u) (h1c : ∀ u ∈ news, u.oneCell' = true)
    (b1 : k + m ≤ cap)
    (hK : ∀ w', Row w' g T cap (xs ++ news) → w.grownBy w' (some g) → wpList P ops Q rest (a.put o.dst (.slice (some ⟨g, 0, none⟩) (k + m) cap)) w') :
    wpList P ops Q (o :: rest) a w := by
  refine wpList_plain hgd fun K hK' => ?_
  subst hk
  have hrun := run_append_room_cells (P := P) w t o.type e i h1 h2 g 0 xs.length cap ad m c news (by rw [h4]; omega) hc h1c b1
    (fun j hj => by rw [h4]; simpa using (hrow.there (j := xs.length + j) (by omega)).1) (fun j hj => by rw [h4]; simpa using (hrow.there (j := xs.length + j) (by omega)).2)
  unfold Oper.wp
  simp [execOp, hop, resolve, invoke, builtin, hs, hx, hrun, Result.andThen]
  have e1 : 0 + xs.length * i.size = xs.length := by rw [h4]; omega
  simp only [h4, Nat.mul_one]
  exact hK' _ _ (hK _ (hrow.pushes news (by omega)) (grownBy_setCells _ _ _ _))

/-- 'append' to what the call owns, as one step of a region that draws its order. -/
theorem step_append_own {P : Program} {ops : Array Oper} {o : Oper} {a : Act} {w : World} {K : Act → World → Prop} {Q : Exit → Act → World → Prop} {E : Prop}
    (hg : o.guard = none) (s x : Operand) (t : TypeId) (hop : o.op = Op.call { callee := Callee.builtin Builtin.append, args := #[s, x], argTypes := #[t, t] })
    (base : Nat) (e : TypeId) (i : TypeInfo) (z : Value) (size bytes : Nat) (h1 : P.underlying t = some (.slice e)) (h2 : P.info? e = some i) (h3 : i.zero = some z) (h4 : i.size = size) (h5 : i.bytes = bytes) (h6 : z.cells.size = size) (h7 : 0 < size)
    (v : Value) (n : Nat) (xs : List Value) (hs : a.eval s = v) (hown : w.ownsRow base e size v n xs)
    (ad : Addr) (m c : Nat) (news : List Value) (hx : a.eval x = .slice (some ad) m c) (hn : news.length = m * size) (hc : ∀ j u, news[j]? = some u → w.cell? (ad.add j) = some u) (h1c : ∀ u ∈ news, u.oneCell' = true)
    (b1 : n + m ≤ maxLen) (b2 : (n + m) * bytes ≤ 140737488355328) (hbase : base ≤ w.heap.size)
    (hK : ∀ v' w', w'.ownsRow base e size v' (n + m) (xs ++ news) → w.grownBy w' v.ownBlock → K (a.put o.dst v') w') :
    if Region.wanted o (yielded ops a.tmps) = true then Oper.wp P o a w K Q else E := by
  have hw : Region.wanted o (yielded ops a.tmps) = true := by simp [Region.wanted, hg]
  rw [if_pos hw]
  obtain ⟨v', w', hrun, r1, r2, _⟩ := run_append_own (P := P) w base t o.type e i z size bytes h1 h2 h3 h4 h5 h6 h7 v n xs hown ad m c news hn hc h1c b1 b2 hbase
  unfold Oper.wp
  simp [execOp, hop, resolve, invoke, builtin, hs, hx, hrun, Result.andThen]
  exact hK v' w' r1 r2

/-- What is owned is owned behind a new block. -/
theorem obelow {B : Nat} {W a b : World} {e size n : Nat} {v : Value} {xs : List Value} (h : Below B W a) (hown : a.ownsRow B e size v n xs) (k : a.grownBy b v.ownBlock) (hB : B ≤ a.heap.size) : Below B W b := by
  refine h.grown k hB fun g hg => ?_
  obtain ⟨_, ⟨rfl, _⟩ | ⟨g', cap, cur, rfl, hb, _⟩⟩ := hown
  · simp [Value.ownBlock] at hg
  · simp [Value.ownBlock] at hg; omega

/-- What is owned stays owned while only new memory is made. -/
theorem owns_below {w w' : World} {B e size n : Nat} {v : Value} {xs : List Value} (h : w.ownsRow B e size v n xs) (hb : Below w.heap.size w w') : w'.ownsRow B e size v n xs := by
  obtain ⟨h1, h2 | ⟨g, cap, cur, hv, hg, hh, r⟩⟩ := h
  · exact ⟨h1, .inl h2⟩
  · exact ⟨h1, .inr ⟨g, cap, cur, hv, hg, (hb.block g (lt_of_block hh)).trans hh, r⟩⟩

/-- A slice of integers that came in: nil; or it leads to 'cap' cells, the numbers zs, of which the first 'len' are its elements. -/
def IsRow (k : IntKind) (w : World) (a : Option Addr) (len cap : Nat) (zs : List Int) : Prop :=
  len ≤ cap ∧ cap ≤ maxLen ∧ zs.length = cap ∧ (∀ i, i < cap → ∃ b off, a = some ⟨b, off, none⟩ ∧ b < w.heap.size ∧ w.cell? ⟨b, off + i, none⟩ = some (.int k (zs.getD i 0))) ∧ ∀ n ∈ zs, (Lit.int k n).wf = true

theorem cell_lt {w : World} {a : Addr} {v : Value} (h : w.cell? a = some v) : a.block < w.heap.size := by
  rcases Nat.lt_or_ge a.block w.heap.size with h' | h'
  · exact h'
  · simp [World.cell?, Array.getElem?_eq_none h'] at h

open Go.ChangeShapes Go.WideShapes Go.ChangeAt in
theorem isRow_open {H : Type} {enc : TypeId × Value → H} {P : Program} {W : World} {t e : TypeId} {k : IntKind} {a : Option Addr} {len cap : Nat} {d : DataW H} {p : List MemPlace}
    (ht : P.underlying t = some (.slice e)) (he : P.underlying e = some (.int k)) (hce : P.cellsOf e = 1) (h : DataW.Trod enc P W 0 (fun _ => true) true t (.slice a len cap) d p) : ∃ zs, IsRow k W a len cap zs := by
  obtain ⟨fuel, hf⟩ := h
  rcases open_ints ht he hce hf with ⟨hcs, _⟩ | ⟨x, l, c, zs, hcs, _, hl, hm, hz, _, hcell, hwz⟩
  · simp [Value.cells] at hcs
    obtain ⟨rfl, rfl, rfl⟩ := hcs
    exact ⟨[], Nat.le_refl _, Nat.zero_le _, rfl, fun i hi => absurd hi (Nat.not_lt_zero _), fun n hn => by cases hn⟩
  · simp [Value.cells] at hcs
    obtain ⟨rfl, rfl, rfl⟩ := hcs
    refine ⟨zs, hl, hm, by simpa using hz, fun i hi => ?_, hwz⟩
    have hz' : zs.length = cap := by simpa using hz
    have hc := hcell i (by omega)
    have hc0 := hcell 0 (by omega)
    obtain ⟨b, off, spot⟩ := x
    have hspot : spot = none := by simpa [Addr.add] using World.cell?_spot hc0
    subst hspot
    rw [Addr.add_lit] at hc
    exact ⟨b, off, rfl, cell_lt hc, hc⟩

/-- '[]byte(s)': a new row that holds the string's bytes. -/
theorem bytes_of {P : Program} (w : World) (src dst e : TypeId) (s : ByteArray) (hs : P.underlying src = some .string) (hd : P.underlying dst = some (.slice e)) (he : P.underlying e = some (.int .u8)) :
    ∃ (C : Nat) (W1 : World), (convert src dst (.string s)).run P w = .ok (.slice (some ⟨w.heap.size, 0, none⟩) s.size C) W1 ∧ Row W1 w.heap.size e s.size (s.data.toList.map fun b => Value.int .u8 (b.toNat : Int)) ∧ Below w.heap.size w W1 ∧ w.heap.size < W1.heap.size := by
  refine ⟨_, _, run_bytes_of_string w src dst e s hs hd he, ?_, (Below.refl _ _).drew.alloc (Nat.le_refl _) _, by simp⟩
  have hsz : s.data.toList.length = s.size := by rw [Array.length_toList]; rfl
  obtain ⟨row, hrow⟩ : ∃ row, row = bytesRow s (grownCap w s.size 0 e) := ⟨_, rfl⟩
  have hrs : s.size ≤ row.size := by rw [hrow]; simp [bytesRow]
  have hrt : row.toList.take s.size = s.data.toList.map fun b => Value.int .u8 (b.toNat : Int) := by
    rw [hrow, bytesRow, Array.toList_append, Array.toList_map, List.take_append_of_le_length (by simp [hsz]), List.take_of_length_le (by simp [hsz])]
  rw [← hrow]
  exact ⟨row, (row.size, row.size + 1), by show (w.heap.push _)[w.heap.size]? = _; simp, hrs, by simp [hsz], by rw [List.length_map, hsz]; exact hrt, .inr hrs⟩

end Go.Proofs.Ytefhhfpdponabaa
