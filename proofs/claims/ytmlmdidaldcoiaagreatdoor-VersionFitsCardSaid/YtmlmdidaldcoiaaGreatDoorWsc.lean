/- What a writer through a pointer changes: blocks, frames, rows of bytes. -/
import Derived.Test.YtmlmdidaldcoiaaGreatDoorNkit
import Derived.Lib.AppendStr
import Derived.RangeFuncNested
import Derived.RangeFuncBound
import Derived.RangeFuncCalls
import Derived.RangeFuncLeaves
import Derived.Shelf.Abstract
import Derived.Shelf.RegionOpen
import Derived.WalkKit
import Derived.OwnWalkIn
import Derived.TacticsInMore
import Derived.LoopNIn
import Derived.LoopIn
namespace Go.Proofs.YtmlmdidaldcoiaaGreatDoor
open Go Go.ChangeShapes Go.WideShapes Go.ChangeAt Go.RowKit
set_option linter.unusedVariables false
set_option linter.unusedSimpArgs false

theorem cell_blk {w : World} {g j : Nat} {cs : Array Value} {T : TypeId} {fz : Nat × Nat} {u : Value} (h : w.heap[g]? = some (.cells cs T fz)) (hj : cs[j]? = some u) : w.cell? ⟨g, j, none⟩ = some u := by simp [World.cell?, h, hj]
theorem free_blk {w : World} {g j : Nat} {cs : Array Value} {T : TypeId} (h : w.heap[g]? = some (.cells cs T (0, 0))) : w.frozen? ⟨g, j, none⟩ = false := by simp [World.frozen?, h]
/-- What stands below g is as it was, and so is whatever is no row of bytes and not block g. -/
def WFr (TB : TypeId) (g : Nat) (w w' : World) : Prop := Below g w w' ∧ ∀ (i : Nat) (o : Obj), i ≠ g → w.heap[i]? = some o → (∀ cs fz, o ≠ .cells cs TB fz) → w'.heap[i]? = some o
theorem WFr.refl (TB : TypeId) (g : Nat) (w : World) : WFr TB g w w := ⟨Below.refl _ _, fun _ _ _ h _ => h⟩
theorem WFr.trans {TB : TypeId} {g : Nat} {a b c : World} (h : WFr TB g a b) (k : WFr TB g b c) : WFr TB g a c := ⟨h.1.trans k.1, fun i o hi ho hn => k.2 i o hi (h.2 i o hi ho hn) hn⟩
theorem WFr.of_below {TB : TypeId} {g : Nat} {w w' : World} (h : Below w.heap.size w w') (hg : g ≤ w.heap.size) : WFr TB g w w' := ⟨h.mono hg, fun i o _ ho _ => (h.block i (lt_of_block ho)).trans ho⟩
/-- Block g is a writer that has written l, with the letters' map m. -/
def WSt (TW TB : TypeId) (B : Nat) (w : World) (g m : Nat) (l : List UInt8) : Prop := ∃ v, w.heap[g]? = some (.cells #[v, .map (some m)] TW (0, 0)) ∧ w.ownsRow B TB 1 v l.length (bytesV l) ∧ g < B ∧ m < g
theorem WSt.below {TW TB : TypeId} {B : Nat} {w w' : World} {g m : Nat} {l : List UInt8} (h : WSt TW TB B w g m l) (hb : Below w.heap.size w w') : WSt TW TB B w' g m l := by
 obtain ⟨v, h1, h2, h3, h4⟩ := h
 exact ⟨v, (hb.block g (lt_of_block h1)).trans h1, h2.kept (grown_of_below hb (Nat.le_refl _) none) (by cases e : v.ownBlock with | none => exact .inl rfl | some b => exact .inr (by simp)), h3, h4⟩
theorem WSt.lt {TW TB : TypeId} {B : Nat} {w : World} {g m : Nat} {l : List UInt8} (h : WSt TW TB B w g m l) : g < w.heap.size := by obtain ⟨v, h1, _⟩ := h; exact lt_of_block h1
theorem WSt.le {TW TB : TypeId} {B : Nat} {w : World} {g m : Nat} {l : List UInt8} (h : WSt TW TB B w g m l) : m < g := by obtain ⟨v, _, _, _, h4⟩ := h; exact h4
theorem wown_form {w : World} {B e n : Nat} {v : Value} {xs : List Value} (h : w.ownsRow B e 1 v n xs) : ∃ ao cap, v = .slice ao n cap ∧ n ≤ cap ∧ cap ≤ maxLen := by
 rcases h.2 with ⟨rfl, rfl⟩ | ⟨g, cap, cur, rfl, _, _, h1, h2, _⟩
 ·exact ⟨none, 0, rfl, Nat.le_refl _, Nat.zero_le _⟩
 ·exact ⟨_, cap, rfl, h1, h2⟩
/-- What an append and the store behind it leave. -/
theorem wst_step {TW TB : TypeId} {B : Nat} {w w8 : World} {g m : Nat} {l l' : List UInt8} {v v' : Value} (h1 : w.heap[g]? = some (.cells #[v, .map (some m)] TW (0, 0))) (h2 : w.ownsRow B TB 1 v l.length (bytesV l)) (hgB : g < B) (hm : m < g) (hTW : TW ≠ TB)
  (hown : w8.ownsRow B TB 1 v' l'.length (bytesV l')) (hgr : w.grownBy w8 v.ownBlock) :
  w8.heap[g]? = some (.cells #[v, .map (some m)] TW (0, 0)) ∧ WSt TW TB B (w8.setCell ⟨g, 0, none⟩ v') g m l' ∧ WFr TB g w (w8.setCell ⟨g, 0, none⟩ v') := by
 have hne : v.ownBlock ≠ some g := by
  intro e
  have := (h2.lt g e).1
  omega
 have k8 : w8.heap[g]? = some (.cells #[v, .map (some m)] TW (0, 0)) := (hgr.block g (lt_of_block h1) (fun e => hne e.symm)).trans h1
 refine ⟨k8, ⟨v', ?_, ?_, hgB, hm⟩, ?_, ?_⟩
 ·have := heap_set k8 (j := 0) v'
  simpa using this
 ·refine hown.kept (grown_set w8 g 0 v') ?_
  cases e : v'.ownBlock with
  | none => exact .inl rfl
  | some b => exact .inr (fun e' => by cases e'; have := (hown.lt _ e).1; omega)
 ·have hb8 : Below g w w8 := (Below.refl g w).grown hgr (Nat.le_of_lt (lt_of_block h1)) (fun k hk => by have := (h2.lt k hk).1; omega)
  exact hb8.grown (grown_set w8 g 0 v') (by have := lt_of_block k8; omega) (fun k hk => by cases hk; exact Nat.le_refl _)
 ·intro i o hi ho hn
  rw [heap_setCell_other w8 ⟨g, 0, none⟩ i v' hi]
  refine (hgr.block i (lt_of_block ho) fun e => ?_).trans ho
  rcases h2.2 with ⟨rfl, -⟩ | ⟨b, cap, cur, rfl, -, hb, -⟩
  ·cases e
  ·have e : i = b := by simpa [Value.ownBlock] using e
   subst e
   rw [hb] at ho
   exact hn _ _ (Option.some.inj ho).symm
/-- T is written behind l; or what is written is beyond the limit, as all of it would be. -/
def Out (l T l' : List UInt8) : Prop := l' = l ++ T ∨ (65536 < l'.length ∧ 65536 < l.length + T.length)
theorem Out.fits {l T l' : List UInt8} (h : Out l T l') (hl : ¬ 65536 < l'.length) : l' = l ++ T := h.resolve_right fun q => hl q.1
theorem Out.over {l T l' : List UInt8} (h : Out l T l') (hl : 65536 < l'.length) : 65536 < l.length + T.length := by
 rcases h with rfl | h
 ·rwa [List.length_append] at hl
 ·exact h.2
theorem Out.more {l T U l' l'' : List UInt8} (h : Out l T l') (hl : ¬ 65536 < l'.length) (k : Out l' U l'') : Out l (T ++ U) l'' := by
 have e := h.fits hl
 rcases k with rfl | k
 ·exact .inl (by rw [e, List.append_assoc])
 ·refine .inr ⟨k.1, ?_⟩
  have := k.2
  rw [e, List.length_append] at this
  rw [List.length_append]; omega
theorem Out.push {l T l' : List UInt8} (h : Out l T l') (U : List UInt8) : Out l (T ++ U) (l' ++ U) := by
 rcases h with rfl | h
 ·exact .inl (by rw [List.append_assoc])
 ·exact .inr ⟨by rw [List.length_append]; omega, by rw [List.length_append]; omega⟩
theorem Out.cut {l T l' : List UInt8} (h : Out l T l') (hl : 65536 < l'.length) {U : List UInt8} (hU : T.length ≤ U.length) : Out l U l' := .inr ⟨hl, by have := h.over hl; omega⟩
end Go.Proofs.YtmlmdidaldcoiaaGreatDoor
/- What a writer's block holds and keeps, through a range over a function. Shared by cbor and pack. -/
namespace Go.Proofs.YtmlmdidaldcoiaaGreatDoor
open Go Go.ChangeShapes Go.WideShapes Go.ChangeAt Go.RowKit Go.Shelf
set_option linter.unusedVariables false
set_option linter.unusedSimpArgs false

/-- Block g is a writer that has written l. -/
def WSc (TW TB : TypeId) (B : Nat) (w : World) (g : Nat) (l : List UInt8) : Prop := ∃ v, w.heap[g]? = some (.cells #[v] TW (0, 0)) ∧ w.ownsRow B TB 1 v l.length (bytesV l) ∧ g < B
theorem WSc.below {TW TB : TypeId} {B : Nat} {w w' : World} {g : Nat} {l : List UInt8} (h : WSc TW TB B w g l) (hb : Below w.heap.size w w') : WSc TW TB B w' g l := by
 obtain ⟨v, h1, h2, h3⟩ := h
 exact ⟨v, (hb.block g (lt_of_block h1)).trans h1, h2.kept (grown_of_below hb (Nat.le_refl _) none) (by cases e : v.ownBlock with | none => exact .inl rfl | some b => exact .inr (by simp)), h3⟩
theorem WSc.lt {TW TB : TypeId} {B : Nat} {w : World} {g : Nat} {l : List UInt8} (h : WSc TW TB B w g l) : g < w.heap.size := by obtain ⟨v, h1, _⟩ := h; exact lt_of_block h1
/-- What an append and the store behind it leave. -/
theorem wsc_step {TW TB : TypeId} {B : Nat} {w w8 : World} {g : Nat} {l l' : List UInt8} {v v' : Value} (h1 : w.heap[g]? = some (.cells #[v] TW (0, 0))) (h2 : w.ownsRow B TB 1 v l.length (bytesV l)) (hgB : g < B) (hTW : TW ≠ TB)
  (hown : w8.ownsRow B TB 1 v' l'.length (bytesV l')) (hgr : w.grownBy w8 v.ownBlock) :
  w8.heap[g]? = some (.cells #[v] TW (0, 0)) ∧ WSc TW TB B (w8.setCell ⟨g, 0, none⟩ v') g l' ∧ WFr TB g w (w8.setCell ⟨g, 0, none⟩ v') := by
 have hne : v.ownBlock ≠ some g := by
  intro e
  have := (h2.lt g e).1
  omega
 have k8 : w8.heap[g]? = some (.cells #[v] TW (0, 0)) := (hgr.block g (lt_of_block h1) (fun e => hne e.symm)).trans h1
 refine ⟨k8, ⟨v', ?_, ?_, hgB⟩, ?_, ?_⟩
 ·have := heap_set k8 (j := 0) v'
  simpa using this
 ·refine hown.kept (grown_set w8 g 0 v') ?_
  cases e : v'.ownBlock with
  | none => exact .inl rfl
  | some b => exact .inr (fun e' => by cases e'; have := (hown.lt _ e).1; omega)
 ·have hb8 : Below g w w8 := (Below.refl g w).grown hgr (Nat.le_of_lt (lt_of_block h1)) (fun k hk => by have := (h2.lt k hk).1; omega)
  exact hb8.grown (grown_set w8 g 0 v') (by have := lt_of_block k8; omega) (fun k hk => by cases hk; exact Nat.le_refl _)
 ·intro i o hi ho hn
  rw [heap_setCell_other w8 ⟨g, 0, none⟩ i v' hi]
  refine (hgr.block i (lt_of_block ho) fun e => ?_).trans ho
  rcases h2.2 with ⟨rfl, -⟩ | ⟨b, cap, cur, rfl, -, hb, -⟩
  ·cases e
  ·have e : i = b := by simpa [Value.ownBlock] using e
   subst e
   rw [hb] at ho
   exact hn _ _ (Option.some.inj ho).symm
/-- What lies below g is kept, and so are all cells but bytes and block g's. -/
def KpW (TB : TypeId) (g : Nat) (w w' : World) : Prop := Below g w w' ∧ ∀ (i : Nat) cs T fz, i ≠ g → T ≠ TB → w.heap[i]? = some (.cells cs T fz) → w'.heap[i]? = some (.cells cs T fz)
theorem KpW.refl (TB : TypeId) (g : Nat) (w : World) : KpW TB g w w := ⟨Below.refl _ _, fun _ _ _ _ _ _ h => h⟩
theorem KpW.trans {TB : TypeId} {g : Nat} {a b c : World} (h : KpW TB g a b) (k : KpW TB g b c) : KpW TB g a c := ⟨h.1.trans k.1, fun i cs T fz hi hT ho => k.2 i cs T fz hi hT (h.2 i cs T fz hi hT ho)⟩
theorem KpW.of {TB : TypeId} {g : Nat} {a b : World} (h : WFr TB g a b) : KpW TB g a b := ⟨h.1, fun i cs T fz hi hT ho => h.2 i _ hi ho (fun ds f e => hT (by cases e; rfl))⟩
theorem KpW.below {TB : TypeId} {g : Nat} {a b : World} (h : Below a.heap.size a b) (hg : g ≤ a.heap.size) : KpW TB g a b := KpW.of (WFr.of_below h hg)
theorem kpW_b {TB : TypeId} {g : Nat} {w : World} (hg : g ≤ w.heap.size) (W : World) (l : Nat) (o o' : Obj) (hl : w.heap.size ≤ l) (h : W.heap[l]? = some o) (hc : o.isCells = false) (hw : o.isWalk = false) : KpW TB g W (W.putObj l o') := by
 refine ⟨belowK_b hg W l o o' hl h hc hw, fun i cs T fz hi hT ho => ?_⟩
 by_cases e : i = l
 ·subst e
  rw [h] at ho
  cases ho
  cases hc
 ·exact ((grownBy_putObj' W l o').block i (lt_of_block ho) (fun e' => e (Option.some.inj e'))).trans ho
/-- The same post, where a panic does not come. -/
def NoPan (Q : Exit → Act → World → Prop) : Exit → Act → World → Prop
 | .panic _, _, _ => False
 | e, a, w => Q e a w
theorem NoPan.out {Q : Exit → Act → World → Prop} : ∀ e a w, NoPan Q e a w → Q e a w
 | .normal, _, _, h => h
 | .ret, _, _, h => h
 | .exit _, _, _, h => h
 | .goto _, _, _, h => h
 | .panic _, _, _, h => h.elim
 | .outgrown, _, _, h => h
theorem wfr_own {TB : TypeId} {g : Nat} {a W W' : World} {row : Option Nat} {B : Nat} (h : WFr TB g a W) (ha : a.heap.size ≤ B) (hgB : g < B) (hgr : W.grownBy W' row) (hr : ∀ r, row = some r → B ≤ r) (hW : B ≤ W.heap.size) : WFr TB g a W' := by
 refine ⟨h.1.grown hgr (by omega) (fun k hk => by have := hr k hk; omega), fun i o hi ho hn => ?_⟩
 have hlt := lt_of_block ho
 refine (hgr.block i (by omega) fun e => ?_).trans (h.2 i o hi ho hn)
 have := hr i e.symm
 omega
theorem wsc_own {TW TB : TypeId} {B : Nat} {W W' : World} {g : Nat} {l : List UInt8} {row : Option Nat} (h : WSc TW TB B W g l) (hgr : W.grownBy W' row) (hr : ∀ r, row = some r → ∃ o : Obj, W.heap[r]? = some o ∧ o.isCells = false) : WSc TW TB B W' g l := by
 obtain ⟨v, k1, k2, k3⟩ := h
 refine ⟨v, (hgr.block g (lt_of_block k1) fun e => ?_).trans k1, k2.kept hgr ?_, k3⟩
 ·obtain ⟨o, ho, hc⟩ := hr g e.symm
  rw [k1] at ho
  cases ho
  cases hc
 ·rcases k2.2 with ⟨rfl, -⟩ | ⟨b, cap, cur, rfl, -, hb, -⟩
  ·exact .inl rfl
  ·right
   intro e
   have e' : row = some b := by rw [← e]; rfl
   obtain ⟨o, ho, hc⟩ := hr b e'
   rw [hb] at ho
   cases ho
   cases hc
theorem out_pre {l T U l' : List UInt8} (h : Out (l ++ T) U l') : Out l (T ++ U) l' := by
 rcases h with rfl | ⟨h1, h2⟩
 ·exact .inl (by rw [List.append_assoc])
 ·exact .inr ⟨h1, by rw [List.length_append] at h2 ⊢; omega⟩
theorem flat_prefix {A B : Type} {f : A → List B} {p q : List A} (h : p <+: q) : (p.flatMap f).length ≤ (q.flatMap f).length := by
 obtain ⟨t, rfl⟩ := h
 rw [List.flatMap_append, List.length_append]
 omega
theorem keeps_of_wfr {TB : TypeId} {g B : Nat} {W W' : World} (h : WFr TB g W W') (hg : g ≤ W.heap.size) (hB : g < B) : KeepsFrom B W W' := ⟨h.1.size, fun k o hk ho hc => h.2 k o (by omega) ho (fun cs fz e => by subst e; cases hc)⟩
theorem WSc.fresh {TW TB : TypeId} (w : World) : WSc TW TB (w.heap.size + 1) (w.alloc (.cells #[.slice none 0 0] TW)) w.heap.size [] :=
 ⟨.slice none 0 0, heap_alloc_new w _, World.ownsRow_nil _ _ _ _, by omega⟩
end Go.Proofs.YtmlmdidaldcoiaaGreatDoor
