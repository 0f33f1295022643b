/- The document's Put, of a text under a map's first name. -/
import Derived.Test.YtmlmdidaldcoiaaGreatDoorNrc
import Derived.Test.YtmlmdidaldcoiaaGreatDoorVft
namespace Go.Proofs.YtmlmdidaldcoiaaGreatDoor
open Go Go.ChangeShapes Go.WideShapes Go.ChangeAt Go.RowKit
set_option linter.unusedVariables false
set_option linter.unusedSimpArgs false

theorem owns_base' {b b' : Nat} {w : World} {e : TypeId} {size n : Nat} {v : Value} {xs : List Value} (h : w.ownsRow b e size v n xs) (hb : b' ≤ b) : w.ownsRow b' e size v n xs := by
  obtain ⟨h1, h2 | ⟨g, cap, cur, hv, hg, r⟩⟩ := h
  · exact ⟨h1, .inl h2⟩
  · exact ⟨h1, .inr ⟨g, cap, cur, hv, by omega, r⟩⟩
theorem leaf_any {d : Nat} {S S' : Nat → Prop} {w w' : World} {cs : List Value} {t : ByteArray} (h : NodeIn d S w cs (tN t)) : NodeIn d S' w' cs (tN t) := by
 cases d with
 | zero => exact h
 | succ d =>
  obtain ⟨vn, vi, e, ht, ⟨a, c, e1, h1, h2, -⟩, ⟨a', c', e2, h3, h4, -⟩⟩ := h
  exact ⟨vn, vi, e, ht, ⟨a, c, e1, h1, h2, fun j s hj => by simp [tN, ND.names] at hj⟩, ⟨a', c', e2, h3, h4, fun j s hj => by simp [tN, ND.items] at hj⟩⟩
/-- The copy that Put changes: its block, its two rows. -/
structure PuS (TN : TypeId) (d B : Nat) (w wr : World) (gx : Nat) (vt : Array Value) (vn : Value) (ai : Option Addr) (ci : Nat) (ns : List ByteArray) (A : List NC) : Prop where
 val : wr.heap[w.heap.size + 1]? = some (.cells vt TN (0, 0))
 res : wr.heap[w.heap.size + 2]? = some (.cells #[.int .i64 0, .bool false, .int .i64 0, .string ⟨#[]⟩, .slice none 0 0, .slice none 0 0] TN (0, 0))
 nod : wr.heap[gx]? = some (.cells #[.int .i64 5, .bool false, .int .i64 0, .string ⟨#[]⟩, vn, .slice ai A.length ci] TN (0, 0))
 lo : w.heap.size + 3 ≤ B ∧ B ≤ gx ∧ (Value.slice ai A.length ci).ownBlock ≠ some gx
 names : StrsIn (fun b => w.heap.size + 3 ≤ b ∧ b < B) wr vn ns
 row : wr.ownsRow B TN 6 (.slice ai A.length ci) A.length (nCells A)
 old : ∀ y, y ∈ A → NodeIn d (fun b => B ≤ b ∧ b < wr.heap.size ∧ (Value.slice ai A.length ci).ownBlock ≠ some b ∧ b ≠ gx) wr y.1 y.2
 bel : Below w.heap.size w wr
section
variable {TN : TypeId} {d B gx ci : Nat} {w wr wn : World} {vt : Array Value} {vn : Value} {ai : Option Addr} {ns : List ByteArray} {A : List NC}
theorem PuS.below (h : PuS TN d B w wr gx vt vn ai ci ns A) (hb : Below wr.heap.size wr wn) : PuS TN d B w wn gx vt vn ai ci ns A := by
 have hk : ∀ {b : Nat} {o : Obj}, wr.heap[b]? = some o → wn.heap[b]? = some o := fun h => (hb.block _ (lt_of_block h)).trans h
 have hlo := h.lo
 have hgx := lt_of_block h.nod
 exact ⟨hk h.val, hk h.res, hk h.nod, h.lo, h.names.same fun b q => hb.block b (by have := q.2; omega), owns_below h.row hb, fun y hy => ((h.old y hy).same fun b q => hb.block b q.2.1).mono fun b q => ⟨q.1, Nat.lt_of_lt_of_le q.2.1 hb.size, q.2.2⟩, h.bel.trans (hb.mono h.bel.size)⟩
theorem PuS.set {g i : Nat} {a b c dd e f : Value} {y : ND} (h : PuS TN d B w wr gx vt vn (some ⟨g, 0, none⟩) ci ns A) (hi : i < A.length) (hy : ∀ S w', NodeIn d S w' [a, b, c, dd, e, f] y) :
  PuS TN d B w ((((((wr.setCell ⟨g, i * 6, none⟩ a).setCell ⟨g, i * 6 + 1, none⟩ b).setCell ⟨g, i * 6 + 2, none⟩ c).setCell ⟨g, i * 6 + 3, none⟩ dd).setCell ⟨g, i * 6 + 4, none⟩ e).setCell ⟨g, i * 6 + 5, none⟩ f) gx vt vn (some ⟨g, 0, none⟩) ci ns (A.set i ([a, b, c, dd, e, f], y)) := by
 have hg := six_stores wr g (i * 6) a b c dd e f
 have hrow := owns_six h.row i a b c dd e f
 have h6 : ∀ y, y ∈ A → y.1.length = 6 := fun y hy => (h.old y hy).len
 rw [nCells_set A i a b c dd e f y h6 hi] at hrow
 have hlo := h.lo
 have hgl := (h.row.lt g rfl)
 have hgne : g ≠ gx := fun e => h.lo.2.2 (by rw [e]; rfl)
 have hgx := lt_of_block h.nod
 have hk : ∀ {b : Nat} {o : Obj}, b ≠ g → wr.heap[b]? = some o → _ := fun {b o} hb hh => (hg.block b (lt_of_block hh) (by intro e; exact hb (Option.some.inj e))).trans hh
 have hL : (A.set i ([a, b, c, dd, e, f], y)).length = A.length := List.length_set
 refine ⟨hk (by omega) h.val, hk (by omega) h.res, by rw [hL]; exact hk (fun e => hgne e.symm) h.nod, by rw [hL]; exact h.lo, h.names.same fun b q => hg.block b (by have := q.2; omega) (by intro e; have := Option.some.inj e; have := q.2; omega), by rw [hL]; exact hrow, ?_, ?_⟩
 ·intro z hz
  rw [hL]
  rcases List.mem_or_eq_of_mem_set hz with hz | rfl
  ·exact ((h.old z hz).same fun b q => hg.block b q.2.1 (by intro e; have := Option.some.inj e; exact q.2.2.1 (by rw [this]; rfl))).mono fun b q => ⟨q.1, Nat.lt_of_lt_of_le q.2.1 hg.size, q.2.2⟩
  ·exact hy _ _
 ·have hb := h.bel
  exact hb.grown hg hb.size fun k hk => by have := Option.some.inj hk; omega
theorem PuS.node (h : PuS TN d B w wr gx vt vn ai ci ns A) : NodeIn (d + 1) (fun b => w.heap.size + 3 ≤ b ∧ b < wr.heap.size) wr [.int .i64 5, .bool false, .int .i64 0, .string ⟨#[]⟩, vn, .slice ai A.length ci] (.mk 5 false 0 ⟨#[]⟩ ns (nodesOf A)) := by
 have hlo := h.lo
 have hgx := lt_of_block h.nod
 have h6 : ∀ y, y ∈ A → y.1.length = 6 := fun y hy => (h.old y hy).len
 have h1 := h.row
 refine ⟨_, _, rfl, Nat.zero_le _, h.names.mono fun b q => ⟨q.1, by have := q.2; omega⟩, ?_⟩
 have hl : (nodesOf A).length = A.length := by simp [nodesOf]
 rcases h1.2 with ⟨e, hA0⟩ | ⟨g, cap, cur, e, hbg, hg, hnc, hcm, hcs, hcu⟩
 ·have hn : A = [] := List.length_eq_zero_iff.1 hA0
  subst hn
  rw [e]
  exact NodesIn.nil _ _ _
 ·cases e
  refine ⟨_, ci, by rw [show (ND.mk 5 false 0 ⟨#[]⟩ ns (nodesOf A)).items = nodesOf A from rfl, hl], by rw [show (ND.mk 5 false 0 ⟨#[]⟩ ns (nodesOf A)).items = nodesOf A from rfl, hl]; exact hnc, hcm, fun j x hj => ?_⟩
  have hj2 : (nodesOf A)[j]? = some x := hj
  have hj' : j < A.length := by have := lt_of_some hj2; omega
  have e : A[j]? = some (A[j].1, A[j].2) := by rw [List.getElem?_eq_getElem hj']
  have hx : x = A[j].2 := by
   rw [nodesOf, List.getElem?_map, e] at hj2
   exact (Option.some.inj hj2).symm
  subst hx
  refine ⟨g, 0, A[j].1, rfl, ⟨by omega, lt_of_block hg⟩, fun f u hu => ?_, (h.old _ (List.getElem_mem hj')).mono fun b q => ⟨by have := q.1; omega, q.2.1⟩⟩
  have := h1.cells (g := g) rfl _ _ (nCells_at h6 e f u hu)
  rw [Addr.add_lit, ← Nat.add_assoc] at this; exact this
end
theorem text_slices {d : Nat} {S : Nat → Prop} {w : World} {cs : List Value} {t : ByteArray} (h : NodeIn d S w cs (tN t)) : ∃ a1 l1 c1 a2 l2 c2, cs = [.int .i64 3, .bool false, .int .i64 0, .string t, .slice a1 l1 c1, .slice a2 l2 c2] := h.slices
theorem map_row {TN : TypeId} {d : Nat} {w w' : World} {x : ND} {e : Ending} (hx : MapOk 7 x) (h : NodeRow TN d w x e w') : ∃ (B : Nat) (vn : Value) (ai : Option Addr) (ci : Nat) (A : List NC), e = .returned (.agg #[.int .i64 5, .bool false, .int .i64 0, .string ⟨#[]⟩, vn, .slice ai A.length ci]) ∧ w.heap.size + 2 ≤ B ∧ StrsIn (fun b => Fr (w.heap.size + 2) w' b ∧ b < B) w' vn x.names ∧ NRow TN d B none w' (.slice ai A.length ci) A ∧ nodesOf A = x.items ∧ Below w.heap.size w w' := by
 obtain ⟨B, vn, ai, ci, A, e, hB, ht, hn, hr, hp, hA, hb⟩ := h
 rw [hx.kind, hx.bool, hx.num, hx.text] at e
 exact ⟨B, vn, ai, ci, A, e, hB, hn, hr, hA, hb⟩
/-- What Put hands back. -/
def RpuPost (d : Nat) (w : World) (y : ND) (e : Ending) (w' : World) : Prop := ∃ vn vi : Value, e = .returned (.tuple #[.agg #[.int .i64 5, .bool false, .int .i64 0, .string ⟨#[]⟩, vn, vi], .int .i64 0]) ∧ NodeIn d (fun b => w.heap.size ≤ b ∧ b < w'.heap.size) w' [.int .i64 5, .bool false, .int .i64 0, .string ⟨#[]⟩, vn, vi] y ∧ Below w.heap.size w w'
set_option maxHeartbeats 3200000 in
set_option maxRecDepth 100000 in
theorem rput_first {d : Nat} {S : Nat → Prop} (cs : List Value) (x : ND) (s t : ByteArray) (w : World) (h : NodeIn (d + 1) S w cs x) (hS : ∀ b, S b → b < w.heap.size) (hx : MapOk 7 x) (h0 : x.names[0]? = some s) (hd : 1 ≤ d) (ht : t.size ≤ 100) (hy : validN 8 (.mk 5 false 0 ⟨#[]⟩ x.names (x.items.set 0 (tN t))) = true) (hT : Utab w) :
  Calls Tryz.prog 31 #[.agg cs.toArray, .string s, .agg #[.int .i64 3, .bool false, .int .i64 0, .string t, .slice none 0 0, .slice none 0 0]] w (RpuPost (d + 1) w (.mk 5 false 0 ⟨#[]⟩ x.names (x.items.set 0 (tN t)))) := by
 obtain ⟨a1, l1, c1, a2, l2, c2, rfl⟩ := h.slices
 have hxv : validN 8 x = true := (mapOk_iff hx.kind).2 hx
 rw [hx.kind, hx.bool, hx.num, hx.text] at h
 rw [hx.kind, hx.bool, hx.num, hx.text]
 obtain ⟨w1, hw1⟩ : ∃ W, W = ((w.alloc (.cells #[.int .i64 5, .bool false, .int .i64 0, .string ⟨#[]⟩, .slice a1 l1 c1, .slice a2 l2 c2] 30)).alloc (.cells #[.int .i64 3, .bool false, .int .i64 0, .string t, .slice none 0 0, .slice none 0 0] 30)).alloc (.cells #[.int .i64 0, .bool false, .int .i64 0, .string ⟨#[]⟩, .slice none 0 0, .slice none 0 0] 30) := ⟨_, rfl⟩
 have z1 : (w.alloc (.cells #[.int .i64 5, .bool false, .int .i64 0, .string ⟨#[]⟩, .slice a1 l1 c1, .slice a2 l2 c2] 30)).heap.size = w.heap.size + 1 := by simp
 have z2 : ((w.alloc (.cells #[.int .i64 5, .bool false, .int .i64 0, .string ⟨#[]⟩, .slice a1 l1 c1, .slice a2 l2 c2] 30)).alloc (.cells #[.int .i64 3, .bool false, .int .i64 0, .string t, .slice none 0 0, .slice none 0 0] 30)).heap.size = w.heap.size + 2 := by simp
 have b1 : Below w.heap.size w w1 := by rw [hw1]; exact (((Below.refl _ _).alloc (Nat.le_refl _) _).alloc (by simp) _).alloc (by simp; omega) _
 have k0 : w1.heap[w.heap.size]? = some (.cells #[.int .i64 5, .bool false, .int .i64 0, .string ⟨#[]⟩, .slice a1 l1 c1, .slice a2 l2 c2] 30 (0, 0)) := by rw [hw1]; exact (Below.heap_alloc _ _ _ (by omega)).trans ((Below.heap_alloc _ _ _ (by omega)).trans (heap_alloc_new _ _))
 have k1 : w1.heap[w.heap.size + 1]? = some (.cells #[.int .i64 3, .bool false, .int .i64 0, .string t, .slice none 0 0, .slice none 0 0] 30 (0, 0)) := by
  have := heap_alloc_new (w.alloc (.cells #[.int .i64 5, .bool false, .int .i64 0, .string ⟨#[]⟩, .slice a1 l1 c1, .slice a2 l2 c2] 30)) (.cells #[.int .i64 3, .bool false, .int .i64 0, .string t, .slice none 0 0, .slice none 0 0] 30)
  rw [z1] at this
  rw [hw1]; exact (Below.heap_alloc _ _ _ (by omega)).trans this
 have k2 : w1.heap[w.heap.size + 2]? = some (.cells #[.int .i64 0, .bool false, .int .i64 0, .string ⟨#[]⟩, .slice none 0 0, .slice none 0 0] 30 (0, 0)) := by
  have := heap_alloc_new ((w.alloc (.cells #[.int .i64 5, .bool false, .int .i64 0, .string ⟨#[]⟩, .slice a1 l1 c1, .slice a2 l2 c2] 30)).alloc (.cells #[.int .i64 3, .bool false, .int .i64 0, .string t, .slice none 0 0, .slice none 0 0] 30)) (.cells #[.int .i64 0, .bool false, .int .i64 0, .string ⟨#[]⟩, .slice none 0 0, .slice none 0 0] 30)
  rw [z2] at this
  rw [hw1]; exact this
 have z3 : w1.heap.size = w.heap.size + 3 := by rw [hw1]; simp
 have low := lowN_of_valid 8 (d + 1) x hxv
 have hold : ∀ wx, Below w.heap.size w wx → NodeIn (d + 1) S wx [.int .i64 5, .bool false, .int .i64 0, .string ⟨#[]⟩, .slice a1 l1 c1, .slice a2 l2 c2] x := fun wx hb => h.same fun b q => hb.block b (hS b q)
 have V1 := Lib.hid (risvalid_any _ x w1 (hold w1 b1) (fun b q => Nat.lt_of_lt_of_le (hS b q) b1.size) (lowV_of_lowN low) (hT.below b1))
 rw [hxv] at V1
 have CX := Lib.hid (fun (wx : World) (hb : Below w.heap.size w wx) => rcopyR_any d S _ x wx (hold wx hb) (fun b q => Nat.lt_of_lt_of_le (hS b q) hb.size) low |>.mono fun e w' q => map_row hx q)
 have CT := Lib.hid (fun (wx : World) => rcopy_any d (fun _ => False) [.int .i64 3, .bool false, .int .i64 0, .string t, .slice none 0 0, .slice none 0 0] (tN t) wx ((node_leaf _ wx 3 false 0 t (by unfold maxLen; omega)).deeper hd) (fun b q => q.elim) (low_text t))
 have K1 := Lib.hid k1
 have K2 := Lib.hid k2
 have B1 := Lib.hid b1
 have Z3 := Lib.hid z3
 have HX := Lib.hid hx
 have HY := Lib.hid hy
 have HT := Lib.hid hT
 have H0 := Lib.hid h0
 have LOW := Lib.hid low
 have cb := six_of k0
 have K0 := Lib.hid k0
 clear h hS hx hxv h0 hy hT b1 k0 k1 k2 z1 z2 z3 low hold
 go_enter Tryz.func31, Tryz.ntmps31
 go_upto_region 1 with fail
 rw [← hw1]
 clear hw1
 go_upto_region 3 with (go_at_call 27; (with_reducible refine (V1.out).mono ?_); rintro e w2 ⟨rfl, hb2⟩; (have cb2 := six_of ((hb2.block _ (lt_of_block K0.out)).trans K0.out)))
 have B2 := Lib.hid (B1.out.trans (hb2.mono B1.out.size))
 have HB2 := Lib.hid hb2
 clear cb V1 hb2
 go_upto_region 4 with (go_at_call 29; (with_reducible refine (CX.out _ B2.out).mono ?_); rintro e w3 ⟨B, vn, ai, ci, A, rfl, hB, hns, hrow, hA, hb3⟩; obtain ⟨a3, c3, rfl, -⟩ := id hns)
 have hns' : StrsIn (fun b => Fr (w2.heap.size + 2) w3 b ∧ b < B) w3 (.slice a3 x.names.length c3) x.names := hns
 clear hns
 have b4 := (Below.refl w3.heap.size w3).alloc (o := .cells #[.int .i64 5, .bool false, .int .i64 0, .string ⟨#[]⟩, .slice a3 x.names.length c3, .slice ai A.length ci] 30) (Nat.le_refl _)
 have k4 := heap_alloc_new w3 (.cells #[.int .i64 5, .bool false, .int .i64 0, .string ⟨#[]⟩, .slice a3 x.names.length c3, .slice ai A.length ci] 30)
 have HP : Hid (PuS 30 d (min B w3.heap.size) w (w3.alloc (.cells #[.int .i64 5, .bool false, .int .i64 0, .string ⟨#[]⟩, .slice a3 x.names.length c3, .slice ai A.length ci] 30)) w3.heap.size #[.int .i64 3, .bool false, .int .i64 0, .string t, .slice none 0 0, .slice none 0 0] (.slice a3 x.names.length c3) ai ci x.names A) := by
  have hz := Z3.out
  have s2 := HB2.out.size
  have s3 := hb3.size
  have hk : ∀ {b : Nat} {o : Obj}, w1.heap[b]? = some o → (w3.alloc (.cells #[.int .i64 5, .bool false, .int .i64 0, .string ⟨#[]⟩, .slice a3 x.names.length c3, .slice ai A.length ci] 30)).heap[b]? = some o := fun {b o} hh => (b4.block _ (by have := lt_of_block hh; omega)).trans ((hb3.block _ (by have := lt_of_block hh; omega)).trans ((HB2.out.block _ (lt_of_block hh)).trans hh))
  have hmin : min B w3.heap.size ≤ B := Nat.min_le_left _ _
  have hmin2 : min B w3.heap.size ≤ w3.heap.size := Nat.min_le_right _ _
  refine Lib.hid ⟨hk K1.out, hk K2.out, k4, ⟨Nat.le_min.2 ⟨by omega, by omega⟩, hmin2, fun e => by have := (hrow.1.lt _ e).2; omega⟩, (hns'.same fun b q => b4.block b q.1.2.1).mono fun b q => ⟨by have := q.1.1; omega, Nat.lt_min.2 ⟨q.2, q.1.2.1⟩⟩, owns_base' (owns_below hrow.1 b4) hmin, fun y hy => ((hrow.2.2 y hy).same fun b q => b4.block b q.2.1).mono fun b q => ⟨Nat.le_trans hmin q.1, Nat.lt_of_lt_of_le q.2.1 b4.size, q.2.2.1, by have := q.2.1; omega⟩, B2.out.trans ((hb3.trans (b4.mono hb3.size)).mono B2.out.size)⟩
 have HA := Lib.hid hA
 clear cb2 CX hB hns' hrow hb3 hA b4 k4 HB2
 generalize min B w3.heap.size = Bx at HP
 generalize w3.alloc _ = w4 at HP ⊢
 generalize w3.heap.size = gx at HP ⊢
 have cn := six_of HP.out.nod
 have hln := LOW.out.1
 go_upto_region 6 with fail
 clear cn
 go_loopw [9, 26] (fun fo i wr => ∃ (j : Nat) (A' : List NC), i = .int .i64 j ∧ j ≤ x.names.length ∧ PuS 30 d Bx w wr gx #[.int .i64 3, .bool false, .int .i64 0, .string t, .slice none 0 0, .slice none 0 0] (.slice a3 x.names.length c3) ai ci x.names A' ∧ A'.length = A.length ∧ ((j = 0 ∧ fo = .bool false ∧ nodesOf A' = x.items) ∨ (0 < j ∧ fo = .bool true ∧ nodesOf A' = x.items.set 0 (tN t)))) (fun _ i _ => x.names.length - (intOf i).toNat)
 case atStart => exact ⟨0, A, rfl, Nat.zero_le _, HP.out, rfl, .inl ⟨rfl, rfl, HA.out⟩⟩
 case round =>
  clear HP
  obtain ⟨j, A', rfl, hj, hst, hlA, hcase⟩ := hrel
  have HST := Lib.hid hst
  have HLA := Lib.hid hlA
  clear hst hlA
  by_cases hlt : j < x.names.length
  ·have hlt' : (j : Int) < (x.names.length : Int) := by omega
   have hj0 : (0 : Int) ≤ (j : Int) := by omega
   have hjm : (x.names.length : Int) ≤ 1000000 := by omega
   have HLT := Lib.hid hlt
   obtain ⟨r, hsn⟩ : ∃ r, x.names[j]? = some r := ⟨_, List.getElem?_eq_getElem hlt⟩
   obtain ⟨bq, oq, rfl, hSq, rq⟩ := HST.out.names.get hsn
   have HSN := Lib.hid hsn
   have cn := six_of HST.out.nod
   have ct := six_of HST.out.val
   clear hsn hSq
   rcases hcase with ⟨hz, rfl, hit⟩ | ⟨hz, rfl, hit⟩
   ·have hrs : r = s := by have h1 := HSN.out; rw [hz, H0.out] at h1; exact (Option.some.inj h1).symm
    have e1 : (r.toList == s.toList) = true := str_beq hrs
    have HZ := Lib.hid hz
    have HIT := Lib.hid hit
    have hAl : j < A'.length := by
     have h1 := congrArg List.length hit
     rw [nodesOf, List.length_map] at h1
     have := HX.out.len
     omega
    clear hrs hz hit
    obtain ⟨g, rfl⟩ : ∃ g, ai = some ⟨g, 0, none⟩ := by
     rcases HST.out.row.2 with ⟨e, h0⟩ | ⟨g, cap, cur, e, _⟩
     ·omega
     ·cases e; exact ⟨g, rfl⟩
    have hAi : (j : Int) < (A'.length : Int) := by omega
    have HAL := Lib.hid hAl
    clear hAl
    go_upto_region 9 with fail
    clear rq
    have bd : Below wr.heap.size wr wr.drew := (Below.refl _ _).drew
    have CK := Lib.hid (fun (wx : World) (hb : Below wr.heap.size wr wx) => And.intro (six_of ((hb.block _ (lt_of_block HST.out.nod)).trans HST.out.nod)).2.2.2.2.2 (six_of ((hb.block _ (lt_of_block HST.out.val)).trans HST.out.val)))
    refine wp_region_plan (fun w' => w'.cell? ⟨gx, 5, none⟩ = some (.slice (some ⟨g, 0, none⟩) A'.length ci) ∧ (w'.cell? ⟨w.heap.size + 1, 0, none⟩ = some (.int .i64 3) ∧ w'.cell? ⟨w.heap.size + 1, 1, none⟩ = some (.bool false) ∧ w'.cell? ⟨w.heap.size + 1, 2, none⟩ = some (.int .i64 0) ∧ w'.cell? ⟨w.heap.size + 1, 3, none⟩ = some (.string t) ∧ w'.cell? ⟨w.heap.size + 1, 4, none⟩ = some (.slice none 0 0) ∧ w'.cell? ⟨w.heap.size + 1, 5, none⟩ = some (.slice none 0 0))) [1, 3] (.take 0 (.take 1 (.take 2 (.take 3 (.ask 4 true (.ask 5 false (.ask 6 false (.ask 7 false .stop .stop) .stop) .stop) .stop))))) (by kernel_rfl) (by kernel_rfl) (fun _ d _ _ _ h => by cases d <;> exact h) (CK.out _ bd) ?_
    have HPD := Lib.hid (HST.out.below bd)
    generalize wr.drew = wd at bd HPD ⊢
    clear cn ct
    refine take_any _ ?_ rfl rfl ?_ (fun K hK => ?_); rotate_left; (intro w0; go_simp; (try rfl)); (go_simp; refine hK _ ?_; clear hK K)
    refine take_held _ ?_ rfl rfl (by decide) ?_ (fun K hK => ?_); rotate_left; (intro w0 hw0; go_simp; (try rfl)); (go_simp; refine hK _ ?_; clear hK K)
    refine take_any _ ?_ rfl rfl ?_ (fun K hK => ?_); rotate_left; (intro w0; go_simp; (try rfl)); (go_simp; refine hK _ ?_; clear hK K)
    refine take_held _ ?_ rfl rfl (by decide) ?_ (fun K hK => ?_); rotate_left; (intro w0 hw0; go_simp; (try rfl)); (go_simp; refine hK _ ?_; clear hK K)
    refine ask_step _ rfl trivial ?_
    go_wp2_with (go_at_call 29; (with_reducible refine (CT.out _).mono ?_); rintro e w7 ⟨cy, rfl, hn7, hb7⟩; obtain ⟨b1, m1, n1, b2, m2, n2, rfl⟩ := text_slices hn7)
    have HP7 := Lib.hid (HPD.out.below hb7)
    refine Seg.mk ⟨CK.out _ (bd.trans (hb7.mono bd.size)), ?_⟩
    have HN7 := Lib.hid hn7
    clear hb7 bd HPD hn7
    refine ask_late _ rfl trivial ?_
    go_wp2
    refine Seg.mk ?_
    have hq : ∀ q, q < 6 → ∃ u, w7.cell? ⟨g, j * 6 + q, none⟩ = some u := fun q hq => by
     have := HAL.out
     rw [HP7.out.row.cellAt (j * 6 + q) (by omega), List.getElem?_eq_getElem (by rw [nCells_length A' fun y hy => (HP7.out.old y hy).len]; omega)]
     exact ⟨_, rfl⟩
    obtain ⟨u0, q0⟩ := hq 0 (by decide)
    obtain ⟨u1, q1⟩ := hq 1 (by decide)
    obtain ⟨u2, q2⟩ := hq 2 (by decide)
    obtain ⟨u3, q3⟩ := hq 3 (by decide)
    obtain ⟨u4, q4⟩ := hq 4 (by decide)
    obtain ⟨u5, q5⟩ := hq 5 (by decide)
    rw [Nat.add_zero] at q0
    have fr0 := HP7.out.row.frozenAt (j * 6)
    have fr1 := HP7.out.row.frozenAt (j * 6 + 1)
    have fr2 := HP7.out.row.frozenAt (j * 6 + 2)
    have fr3 := HP7.out.row.frozenAt (j * 6 + 3)
    have fr4 := HP7.out.row.frozenAt (j * 6 + 4)
    have fr5 := HP7.out.row.frozenAt (j * 6 + 5)
    have HP8 := Lib.hid (HP7.out.set HAL.out (fun S w' => (leaf_any (HN7.out))))
    clear hq HP7
    refine ask_late _ rfl trivial ?_
    go_wp2
    clear q0 q1 q2 q3 q4 q5 fr0 fr1 fr2 fr3 fr4 fr5
    refine Seg.mk ?_
    refine ask_last _ rfl trivial ?_
    go_wp2
    go_roundw
    case rel => exact ⟨j + 1, _, by go_num, by have := HLT.out; omega, HP8.out, by rw [List.length_set]; exact HLA.out, .inr ⟨by omega, rfl, by rw [nodesOf_set, HIT.out, HZ.out]⟩⟩
    case measure => have := HLT.out; simp [intOf]; omega
   ·have hrs : r ≠ s := fun e => by
     have h1 := HSN.out
     rw [e] at h1
     have h2 := (List.getElem?_inj (by omega) HX.out.nodup).1 (h1.trans H0.out.symm)
     omega
    have e1 : (r.toList == s.toList) = false := str_bne hrs
    have HIT := Lib.hid hit
    clear hrs hit
    go_wp2
    go_roundw
    case rel => exact ⟨j + 1, A', by go_num, by have := HLT.out; omega, HST.out, HLA.out, .inr ⟨by omega, rfl, HIT.out⟩⟩
    case measure => have := HLT.out; simp [intOf]; omega
  ·have hlt' : ¬ (j : Int) < (x.names.length : Int) := by omega
   rcases hcase with ⟨hz, rfl, hit⟩ | ⟨hz, rfl, hit⟩
   ·have := lt_of_some H0.out
    omega
   ·have hnode := HST.out.node
    have hyv : validN 8 (.mk 5 false 0 ⟨#[]⟩ x.names (nodesOf A')) = true := by rw [hit]; exact HY.out
    have V9 := Lib.hid (risvalid_any _ _ wr hnode (fun b q => q.2) (lowV_of_lowN (lowN_of_valid 8 (d + 1) _ hyv)) (HT.out.below HST.out.bel))
    rw [hyv] at V9
    have HIT := Lib.hid hit
    have cn := six_of HST.out.nod
    obtain ⟨Li, hLi⟩ : ∃ n, n = A'.length := ⟨_, rfl⟩
    have HLI := Lib.hid hLi
    have hst := HST.out
    rw [← hLi] at V9 cn
    clear hit hnode hyv hst hLi
    have hres : wr.heap[w.heap.size + 1 + 1]? = some (.cells #[.int .i64 0, .bool false, .int .i64 0, .string ⟨#[]⟩, .slice none 0 0, .slice none 0 0] 30 (0, 0)) := HST.out.res
    obtain ⟨gr, hgz⟩ : ∃ g, g = w.heap.size + 1 + 1 := ⟨_, rfl⟩
    rw [← hgz] at hres
    rw [← hgz]
    have HRS := Lib.hid hres
    have HGZ := Lib.hid hgz
    clear hres hgz
    go_upto_region 15 with (go_at_call 27; (with_reducible refine (V9.out).mono ?_); rintro e w9 ⟨rfl, hb9⟩; (have hr9 := (hb9.block _ (lt_of_block HRS.out)).trans HRS.out); (have f9 := free_six hr9); (have c9 := six_of hr9); (have k9 := (hb9.block _ (lt_of_block HST.out.nod)).trans HST.out.nod); (rw [← HLI.out] at k9); (have d9 := six_of k9); clear k9)
    have HR9 := Lib.hid hr9
    have HP9 := Lib.hid (HST.out.below hb9)
    clear V9 cn hb9 hr9
    go_wp2
    refine ret_node (v := .int .i64 0) HR9.out Tryz.results31 rfl rfl rfl ?_
    have hgz := HGZ.out
    have hb := HP9.out.bel
    have hN := HP9.out.node
    rw [HIT.out] at hN
    rw [HLI.out]
    exact ⟨_, _, rfl, (hN.same fun b q => (grown_set6 w9 gr _ _ _ _ _ _).block b q.2 (by intro e; have := Option.some.inj e; have := q.1; omega)).mono fun b q => ⟨by have := q.1; omega, Nat.lt_of_lt_of_le q.2 (grown_set6 w9 gr _ _ _ _ _ _).size⟩, hb.grown (grown_set6 w9 gr _ _ _ _ _ _) hb.size fun k hk => by have := Option.some.inj (show some gr = some k from hk); omega⟩
end Go.Proofs.YtmlmdidaldcoiaaGreatDoor
