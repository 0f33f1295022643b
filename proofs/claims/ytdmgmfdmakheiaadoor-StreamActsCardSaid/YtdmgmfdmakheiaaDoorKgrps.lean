/- The kit's Group: some group with at most four primitives. Then: The statements' own groups (some list of groups) and awake (the chapter's example) of layer 4. -/
import Derived.Test.YtdmgmfdmakheiaaDoorPkit
import Derived.Test.YtdmgmfdmakheiaaDoorSgood
import Derived.Test.YtdmgmfdmakheiaaDoorTrow
import Derived.Test.YtdmgmfdmakheiaaDoorTdec
namespace Go.Proofs.YtdmgmfdmakheiaaDoor
open Go.ChangeShapes Go.WideShapes Go.ChangeAt Go.RowKit
set_option linter.unusedVariables false
set_option linter.unusedSimpArgs false

/-- What the kit's Group holds: its result's block, the group's block gb, the slice of codes in block bc, the dice in block dg. -/
structure KSt (TG TP : TypeId) (w wx : World) (dg gb bc C : Nat) (P : List Int) (k : Int) (v : Value) (acc : List Prim) : Prop where
  res : wx.heap[w.heap.size]? = some (.cells #[.int .i64 0, .slice none 0 0] TG (0, 0))
  grp : wx.heap[gb]? = some (.cells #[.int .i64 k, v] TG (0, 0))
  cod : ∀ j, j < P.length → wx.cell? ⟨bc, j, none⟩ = some (.int .i64 (P.getD j 0))
  lo : dg < w.heap.size ∧ w.heap.size < gb ∧ gb < bc ∧ bc < C ∧ C ≤ wx.heap.size
  own : wx.ownsRow C TP 2 v acc.length (primCells acc)
  raws : ∀ x, x ∈ acc → x.2.size ≤ maxLen - 2
  gro : w.grownBy wx (some dg)
theorem KSt.grown {TG TP : TypeId} {w wx wn : World} {dg gb bc C : Nat} {P : List Int} {k : Int} {v : Value} {acc : List Prim} (h : KSt TG TP w wx dg gb bc C P k v acc) (hg : wx.grownBy wn (some dg)) : KSt TG TP w wn dg gb bc C P k v acc := by
  obtain ⟨l1, l2, l3, l4, l5⟩ := h.lo
  exact ⟨keepG hg (by omega) h.res, keepG hg (by omega) h.grp, fun j hj => hg.cell (h.cod j hj) (by intro e; have := Option.some.inj e; dsimp only at this; omega), ⟨l1, l2, l3, l4, Nat.le_trans l5 hg.size⟩, owns_grown h.own hg (by omega), h.raws, gtrans h.gro hg⟩
theorem KSt.below {TG TP : TypeId} {w wx wn : World} {dg gb bc C : Nat} {P : List Int} {k : Int} {v : Value} {acc : List Prim} (h : KSt TG TP w wx dg gb bc C P k v acc) (hb : Below wx.heap.size wx wn) : KSt TG TP w wn dg gb bc C P k v acc :=
  h.grown (grown_of_below hb (Nat.le_refl _) _)
/-- The kind is stored. -/
theorem KSt.kind {TG TP : TypeId} {w wx : World} {dg gb bc C : Nat} {P : List Int} {k k' : Int} {v : Value} {acc : List Prim} (h : KSt TG TP w wx dg gb bc C P k v acc) : KSt TG TP w (wx.setCell ⟨gb, 0, none⟩ (.int .i64 k')) dg gb bc C P k' v acc := by
  obtain ⟨l1, l2, l3, l4, l5⟩ := h.lo
  have hne : ∀ i, i ≠ gb → (wx.setCell ⟨gb, 0, none⟩ (.int .i64 k')).heap[i]? = wx.heap[i]? := fun i hi => heap_setCell_other wx ⟨gb, 0, none⟩ i _ hi
  have hsz : (wx.setCell ⟨gb, 0, none⟩ (.int .i64 k')).heap.size = wx.heap.size := by simp
  refine ⟨(hne _ (by omega)).trans h.res, two_set0 h.grp _, fun j hj => by rw [cell_same (w := wx) (hne bc (by omega))]; exact h.cod j hj, ⟨l1, l2, l3, l4, by rw [hsz]; exact l5⟩, ?_, h.raws, ?_⟩
  · have hg : wx.grownBy (wx.setCell ⟨gb, 0, none⟩ (.int .i64 k')) (some gb) := ⟨rfl, rfl, rfl, by rw [hsz]; exact Nat.le_refl _, fun i hi hn => hne i (fun e => hn (by rw [e]))⟩
    exact owns_grown h.own hg (by omega)
  · exact ⟨h.gro.os, h.gro.tape, h.gro.output, by rw [hsz]; exact h.gro.size, fun i hi hn => (hne i (by omega)).trans (h.gro.block i hi hn)⟩
/-- One primitive more: the append has left w2, and the slice is stored. -/
theorem KSt.push {TG TP : TypeId} {w wx w2 : World} {dg gb bc C : Nat} {P : List Int} {k c : Int} {v v' : Value} {acc : List Prim} {r : ByteArray} (h : KSt TG TP w wx dg gb bc C P k v acc) (hr : r.size ≤ maxLen - 2)
    (hown : w2.ownsRow C TP 2 v' (acc.length + 1) (primCells acc ++ [.int .i64 c, .string r])) (hg : wx.grownBy w2 v.ownBlock) : KSt TG TP w (w2.setCell ⟨gb, 1, none⟩ v') dg gb bc C P k v' (acc ++ [(c, r)]) := by
  obtain ⟨l1, l2, l3, l4, l5⟩ := h.lo
  have hob : ∀ b, v.ownBlock = some b → C ≤ b := fun b e => (h.own.lt b e).1
  have hk : ∀ j, j < C → w2.heap[j]? = wx.heap[j]? := fun j hj => own_kept h.own hg j hj (by omega)
  have hne : ∀ i, i ≠ gb → (w2.setCell ⟨gb, 1, none⟩ v').heap[i]? = w2.heap[i]? := fun i hi => heap_setCell_other w2 ⟨gb, 1, none⟩ i _ hi
  have hsz : (w2.setCell ⟨gb, 1, none⟩ v').heap.size = w2.heap.size := by simp
  refine ⟨(hne _ (by omega)).trans ((hk _ (by omega)).trans h.res), two_set1 ((hk _ (by omega)).trans h.grp) v', fun j hj => by rw [cell_same (w := w2) (hne bc (by omega)), cell_same (w := wx) (hk bc l4)]; exact h.cod j hj, ⟨l1, l2, l3, l4, by rw [hsz]; exact Nat.le_trans l5 hg.size⟩, ?_, ?_, ?_⟩
  · have hgs : w2.grownBy (w2.setCell ⟨gb, 1, none⟩ v') (some gb) := ⟨rfl, rfl, rfl, by rw [hsz]; exact Nat.le_refl _, fun i hi hn => hne i (fun e => hn (by rw [e]))⟩
    have hp := owns_grown hown hgs (by omega)
    rw [List.length_append, primCells_append]
    exact hp
  · intro x hx
    rcases List.mem_append.1 hx with hx | hx
    · exact h.raws x hx
    · cases List.mem_singleton.1 hx
      exact hr
  · have h2 : w.grownBy w2 (some dg) := grown_own h.gro h.own hg (by omega)
    exact ⟨h2.os, h2.tape, h2.output, by rw [hsz]; exact h2.size, fun i hi hn => (hne i (by omega)).trans (h2.block i hi hn)⟩
theorem KSt.dice {B : Nat} {TG TP : TypeId} {w wx w2 : World} {dg gb bc C : Nat} {P : List Int} {k : Int} {v v' : Value} {acc : List Prim} (h : KSt TG TP w wx dg gb bc C P k v acc) (hd : DiceAt B wx dg) (hg : wx.grownBy w2 v.ownBlock) : DiceAt B (w2.setCell ⟨gb, 1, none⟩ v') dg := by
  obtain ⟨l1, l2, l3, l4, l5⟩ := h.lo
  exact DiceAt.setNew (hd.same fun j hj => own_kept h.own hg j (by omega) (by omega)) (by omega) _ _

theorem KSt.other {TG TP : TypeId} {w wx : World} {dg gb bc C pb : Nat} {P : List Int} {k : Int} {v : Value} {acc : List Prim} (h : KSt TG TP w wx dg gb bc C P k v acc) (hC : C ≤ pb) (hn : ∀ b, v.ownBlock = some b → b ≠ pb) (o : Nat) (x : Value) : KSt TG TP w (wx.setCell ⟨pb, o, none⟩ x) dg gb bc C P k v acc := by
  obtain ⟨l1, l2, l3, l4, l5⟩ := h.lo
  have hne : ∀ i, i ≠ pb → (wx.setCell ⟨pb, o, none⟩ x).heap[i]? = wx.heap[i]? := fun i hi => heap_setCell_other wx ⟨pb, o, none⟩ i _ hi
  have hsz : (wx.setCell ⟨pb, o, none⟩ x).heap.size = wx.heap.size := by simp
  refine ⟨(hne _ (by omega)).trans h.res, (hne _ (by omega)).trans h.grp, fun j hj => by rw [cell_same (w := wx) (hne bc (by omega))]; exact h.cod j hj, ⟨l1, l2, l3, l4, by rw [hsz]; exact l5⟩, ?_, h.raws, ?_⟩
  · have hg : wx.grownBy (wx.setCell ⟨pb, o, none⟩ x) (some pb) := ⟨rfl, rfl, rfl, by rw [hsz]; exact Nat.le_refl _, fun i hi hn => hne i (fun e => hn (by rw [e]))⟩
    refine h.own.kept hg ?_
    cases e : v.ownBlock with
    | none => exact .inl rfl
    | some b => exact .inr (by intro e'; exact hn b e (Option.some.inj e'))
  · exact ⟨h.gro.os, h.gro.tape, h.gro.output, by rw [hsz]; exact h.gro.size, fun i hi hn => (hne i (by omega)).trans (h.gro.block i hi hn)⟩
theorem KSt.begin {TG TP : TypeId} {w W2 wx : World} {dg gb bc : Nat} {P : List Int} {k : Int} (hres : W2.heap[w.heap.size]? = some (.cells #[.int .i64 0, .slice none 0 0] TG (0, 0))) (hgrp : W2.heap[gb]? = some (.cells #[.int .i64 k, .slice none 0 0] TG (0, 0))) (hgro : w.grownBy W2 (some dg)) (l1 : dg < w.heap.size) (l2 : w.heap.size < gb)
    (hb : Below W2.heap.size W2 wx) (h3 : W2.heap.size ≤ bc) (h4 : bc < wx.heap.size) (hcod : ∀ j, j < P.length → wx.cell? ⟨bc, j, none⟩ = some (.int .i64 (P.getD j 0))) : KSt TG TP w wx dg gb bc wx.heap.size P k (.slice none 0 0) [] := by
  have hgs := lt_of_block hgrp
  exact ⟨keepB hb (by omega) hres, keepB hb hgs hgrp, hcod, ⟨l1, l2, by omega, h4, Nat.le_refl _⟩, World.ownsRow_nil _ _ _ _, fun x hx => (by cases hx), gtrans hgro (grown_of_below hb (Nat.le_refl _) _)⟩
theorem cell1_of {w : World} {g : Nat} {u : Value} {T : TypeId} (h : w.heap[g]? = some (.cells #[u] T (0, 0))) : w.cell? ⟨g, 0, none⟩ = some u := by simp [World.cell?, h]
theorem al_old (w : World) (o : Obj) (j : Nat) (h : j < w.heap.size) : (w.alloc o).heap[j]? = w.heap[j]? ∧ j < (w.alloc o).heap.size := ⟨Below.heap_alloc w o j h, by simp; omega⟩
theorem al_five (w : World) (a b c d e : Obj) : Below w.heap.size w (((((w.alloc a).alloc b).alloc c).alloc d).alloc e) ∧ (((((w.alloc a).alloc b).alloc c).alloc d).alloc e).heap.size = w.heap.size + 5 ∧
    (((((w.alloc a).alloc b).alloc c).alloc d).alloc e).heap[w.heap.size]? = (w.alloc a).heap[w.heap.size]? ∧ (((((w.alloc a).alloc b).alloc c).alloc d).alloc e).heap[w.heap.size + 1]? = ((w.alloc a).alloc b).heap[w.heap.size + 1]? ∧
    (((((w.alloc a).alloc b).alloc c).alloc d).alloc e).heap[w.heap.size + 1 + 1]? = (((w.alloc a).alloc b).alloc c).heap[w.heap.size + 1 + 1]? ∧ (((((w.alloc a).alloc b).alloc c).alloc d).alloc e).heap[w.heap.size + 1 + 1 + 1]? = ((((w.alloc a).alloc b).alloc c).alloc d).heap[w.heap.size + 1 + 1 + 1]? := by
  refine ⟨((((((Below.refl w.heap.size w).alloc (Nat.le_refl _) a).alloc (by simp) b).alloc (by simp <;> omega) c).alloc (by simp <;> omega) d).alloc (by simp <;> omega) e), by simp, ?_, ?_, ?_, ?_⟩
  · rw [(al_old _ e _ (by simp <;> omega)).1, (al_old _ d _ (by simp <;> omega)).1, (al_old _ c _ (by simp <;> omega)).1, (al_old _ b _ (by simp)).1]
  · rw [(al_old _ e _ (by simp <;> omega)).1, (al_old _ d _ (by simp <;> omega)).1, (al_old _ c _ (by simp)).1]
  · rw [(al_old _ e _ (by simp <;> omega)).1, (al_old _ d _ (by simp)).1]
  · rw [(al_old _ e _ (by simp)).1]

/-- Some group. -/
def SomeGroup (w : World) (e : Ending) (w' : World) : Prop :=
  ∃ k ai li ci L, e = .returned (.agg #[.int .i64 k, .slice ai li ci]) ∧ PrimsAt w'.heap.size w' (.slice ai li ci) L ∧ L.length ≤ 4 ∧ ∀ b, (Value.slice ai li ci).ownBlock = some b → w.heap.size ≤ b

theorem KSt.final {B : Nat} {TG TP : TypeId} {w wx : World} {dg gb bc C cap : Nat} {P : List Int} {k : Int} {ao : Option Addr} {acc : List Prim} (h : KSt TG TP w wx dg gb bc C P k (.slice ao acc.length cap) acc) (hd : DiceAt B wx dg) (hl : acc.length ≤ 4) :
    SomeGroup w (.returned (.agg #[.int .i64 k, .slice ao acc.length cap])) ((wx.setCell ⟨w.heap.size, 0, none⟩ (.int .i64 k)).setCell ⟨w.heap.size, 1, none⟩ (.slice ao acc.length cap)) ∧ w.grownBy ((wx.setCell ⟨w.heap.size, 0, none⟩ (.int .i64 k)).setCell ⟨w.heap.size, 1, none⟩ (.slice ao acc.length cap)) (some dg) ∧ DiceAt B ((wx.setCell ⟨w.heap.size, 0, none⟩ (.int .i64 k)).setCell ⟨w.heap.size, 1, none⟩ (.slice ao acc.length cap)) dg := by
  obtain ⟨l1, l2, l3, l4, l5⟩ := h.lo
  refine ⟨⟨k, ao, acc.length, cap, acc, rfl, ?_, hl, fun b e => by have := (h.own.lt b e).1; omega⟩, grown_setNew (grown_setNew h.gro (Nat.le_refl _) _ _) (Nat.le_refl _) _ _, DiceAt.setNew (DiceAt.setNew hd (by omega) _ _) (by omega) _ _⟩
  have hg : wx.grownBy ((wx.setCell ⟨w.heap.size, 0, none⟩ (.int .i64 k)).setCell ⟨w.heap.size, 1, none⟩ (.slice ao acc.length cap)) (some w.heap.size) :=
    ⟨rfl, rfl, rfl, by simp, fun i hi hne => by
      have hn : i ≠ w.heap.size := fun e => hne (by rw [e])
      rw [heap_setCell_other _ ⟨w.heap.size, 1, none⟩ i _ hn, heap_setCell_other _ ⟨w.heap.size, 0, none⟩ i _ hn]⟩
  exact prims_of_owns (owns_grown h.own hg (by omega)) h.raws
theorem rawI_le (c : Int) : 0 ≤ rawI c ∧ rawI c ≤ 626 := by
  have : ∀ n, rawN n ≤ 626 := by intro n; unfold rawN; split <;> omega
  unfold rawI
  have := this c.toNat
  omega

set_option maxHeartbeats 4000000 in
set_option maxRecDepth 100000 in
theorem kgroup_any (B dg : Nat) (w : World) (hd : DiceAt B w dg) : Calls Tryd.prog 27 #[.pointer (some ⟨dg, 0, none⟩)] w fun e w' => SomeGroup w e w' ∧ w.grownBy w' (some dg) ∧ DiceAt B w' dg := by
  have N4 := Lib.hid (fun (wx : World) (hx : DiceAt B wx dg) => next_lit B dg 4 4 rfl wx (by decide) (by decide) hx)
  have N3 := Lib.hid (fun (wx : World) (hx : DiceAt B wx dg) => next_lit B dg 3 3 rfl wx (by decide) (by decide) hx)
  have N12 := Lib.hid (fun (wx : World) (hx : DiceAt B wx dg) => next_lit B dg 12 12 rfl wx (by decide) (by decide) hx)
  have N6 := Lib.hid (fun (wx : World) (hx : DiceAt B wx dg) => next_lit B dg 6 6 rfl wx (by decide) (by decide) hx)
  have hgw := hd.lt
  have r0 : (w.alloc (.cells #[.int .i64 0, .slice none 0 0] 28)).heap[w.heap.size]? = some (.cells #[.int .i64 0, .slice none 0 0] 28 (0, 0)) := heap_alloc_new _ _
  have D0 := Lib.hid (hd.below (C := w.heap.size) hgw ((Below.refl w.heap.size w).alloc (o := .cells #[.int .i64 0, .slice none 0 0] 28) (Nat.le_refl _)))
  have q0 := galloc w (.cells #[.int .i64 0, .slice none 0 0] 28) (some dg)
  clear hd
  go_enter Tryd.func27, Tryd.ntmps27
  go_upto_region 2 with (go_at_call 28; (with_reducible refine (N4.out _ D0.out).mono ?_); rintro e w1 ⟨⟨k, hk4, rfl⟩, hg1, hd1⟩)
  have r1 := keepG hg1 (by omega) r0
  have q1 := gtrans q0 hg1
  have hgw1 : w.heap.size < w1.heap.size := lt_of_block r1
  have p2 : (w1.alloc (.cells #[.int .i64 (1 + (k : Int)), .slice none 0 0] 28)).heap[w1.heap.size]? = some (.cells #[.int .i64 (1 + (k : Int)), .slice none 0 0] 28 (0, 0)) := heap_alloc_new _ _
  have bA := (Below.refl w1.heap.size w1).alloc (o := .cells #[.int .i64 (1 + (k : Int)), .slice none 0 0] 28) (Nat.le_refl _)
  have r2 := keepB bA hgw1 r1
  have d2 := hd1.go bA
  have q2 : w.grownBy (w1.alloc (.cells #[.int .i64 (1 + (k : Int)), .slice none 0 0] 28)) (some dg) := gtrans q1 (galloc _ _ _)
  have hgs : w1.heap.size < (w1.alloc (.cells #[.int .i64 (1 + (k : Int)), .slice none 0 0] 28)).heap.size := by simp
  obtain ⟨W2, hW2⟩ : ∃ W2, W2 = w1.alloc (.cells #[.int .i64 (1 + (k : Int)), .slice none 0 0] 28) := ⟨_, rfl⟩
  rw [← hW2] at p2 r2 d2 q2 hgs
  rw [← hW2]
  obtain ⟨gb, hgb⟩ : ∃ gb, gb = w1.heap.size := ⟨_, rfl⟩
  rw [← hgb] at p2 hgs hgw1
  rw [← hgb]
  clear hW2 hgb r0 D0 q0 hg1 hd1 r1 q1 bA
  go_cut [4] from 22 (fun v wx => ∃ (bc C m : Nat) (P : List Int), v = .slice (some ⟨bc, 0, none⟩) m m ∧ m = P.length ∧ m ≤ 2 ∧ KSt 28 48 w wx dg gb bc C P (1 + (k : Int)) (.slice none 0 0) [] ∧ DiceAt B wx dg)
  case first =>
    have hc1 := fun a b c d e : Obj => (show (((((W2.alloc a).alloc b).alloc c).alloc d).alloc e).cell? ⟨gb, 0, none⟩ = some (.int .i64 (1 + (k : Int))) from by
      have h1 : ∀ (wx : World) (o : Obj), gb < wx.heap.size → (wx.alloc o).heap[gb]? = wx.heap[gb]? ∧ gb < (wx.alloc o).heap.size := fun wx o h => ⟨Below.heap_alloc wx o gb h, by simp; omega⟩
      have z0 := h1 W2 a hgs
      have z1 := h1 _ b z0.2
      have z2 := h1 _ c z1.2
      have z3 := h1 _ d z2.2
      have z4 := h1 _ e z3.2
      rw [cell_same (w := W2) (by rw [z4.1, z3.1, z2.1, z1.1, z0.1])]
      exact (two_of p2).1)
    obtain rfl | rfl | rfl | rfl : k = 0 ∨ k = 1 ∨ k = 2 ∨ k = 3 := by omega
    · obtain ⟨hb5, hs5, g0, g1, g2, g3⟩ := al_five W2 (.cells #[.int .i64 7] 3) (.cells #[.int .i64 7] 3) (.cells #[.int .i64 3, .int .i64 7] 3) (.cells #[.int .i64 8, .int .i64 1] 3) (.cells #[.slice none 0 0, .slice (some ⟨W2.heap.size, 0, none⟩) 1 1, .slice (some ⟨W2.heap.size + 1, 0, none⟩) 1 1, .slice (some ⟨W2.heap.size + 1 + 1, 0, none⟩) 2 2, .slice (some ⟨W2.heap.size + 1 + 1 + 1, 0, none⟩) 2 2] 22)
      have HK := Lib.hid (KSt.begin (TP := 48) (bc := W2.heap.size) (P := [7]) r2 p2 q2 hgw hgw1 hb5 (Nat.le_refl _) (by omega) (fun j hj => by
        obtain rfl : j = 0 := by simpa using hj
        exact cell1_of (g0.trans (heap_alloc_new _ _))))
      have HD := Lib.hid (d2.go hb5)
      clear hb5 hs5 g0 g1 g2 g3 r2 p2 q2 d2
      go_wp2
      go_meet
      exact ⟨_, _, 1, [7], rfl, rfl, by decide, HK.out, HD.out⟩
    · obtain ⟨hb5, hs5, g0, g1, g2, g3⟩ := al_five W2 (.cells #[.int .i64 7] 3) (.cells #[.int .i64 7] 3) (.cells #[.int .i64 3, .int .i64 7] 3) (.cells #[.int .i64 8, .int .i64 1] 3) (.cells #[.slice none 0 0, .slice (some ⟨W2.heap.size, 0, none⟩) 1 1, .slice (some ⟨W2.heap.size + 1, 0, none⟩) 1 1, .slice (some ⟨W2.heap.size + 1 + 1, 0, none⟩) 2 2, .slice (some ⟨W2.heap.size + 1 + 1 + 1, 0, none⟩) 2 2] 22)
      have HK := Lib.hid (KSt.begin (TP := 48) (bc := W2.heap.size + 1) (P := [7]) r2 p2 q2 hgw hgw1 hb5 (by omega) (by omega) (fun j hj => by
        obtain rfl : j = 0 := by simpa using hj
        have h := heap_alloc_new (W2.alloc (.cells #[.int .i64 7] 3)) (.cells #[.int .i64 7] 3)
        rw [show (W2.alloc (.cells #[.int .i64 7] 3)).heap.size = W2.heap.size + 1 by simp] at h
        exact cell1_of (g1.trans h)))
      have HD := Lib.hid (d2.go hb5)
      clear hb5 hs5 g0 g1 g2 g3 r2 p2 q2 d2
      go_wp2
      go_meet
      exact ⟨_, _, 1, [7], rfl, rfl, by decide, HK.out, HD.out⟩
    · obtain ⟨hb5, hs5, g0, g1, g2, g3⟩ := al_five W2 (.cells #[.int .i64 7] 3) (.cells #[.int .i64 7] 3) (.cells #[.int .i64 3, .int .i64 7] 3) (.cells #[.int .i64 8, .int .i64 1] 3) (.cells #[.slice none 0 0, .slice (some ⟨W2.heap.size, 0, none⟩) 1 1, .slice (some ⟨W2.heap.size + 1, 0, none⟩) 1 1, .slice (some ⟨W2.heap.size + 1 + 1, 0, none⟩) 2 2, .slice (some ⟨W2.heap.size + 1 + 1 + 1, 0, none⟩) 2 2] 22)
      have HK := Lib.hid (KSt.begin (TP := 48) (bc := W2.heap.size + 1 + 1) (P := [3, 7]) r2 p2 q2 hgw hgw1 hb5 (by omega) (by omega) (fun j hj => by
        have h := heap_alloc_new ((W2.alloc (.cells #[.int .i64 7] 3)).alloc (.cells #[.int .i64 7] 3)) (.cells #[.int .i64 3, .int .i64 7] 3)
        rw [show ((W2.alloc (.cells #[.int .i64 7] 3)).alloc (.cells #[.int .i64 7] 3)).heap.size = W2.heap.size + 1 + 1 by simp] at h
        have h2 := two_of (g2.trans h)
        have hj2 : j < 2 := hj
        obtain rfl | rfl : j = 0 ∨ j = 1 := by omega
        · exact h2.1
        · exact h2.2))
      have HD := Lib.hid (d2.go hb5)
      clear hb5 hs5 g0 g1 g2 g3 r2 p2 q2 d2
      go_wp2
      go_meet
      exact ⟨_, _, 2, [3, 7], rfl, rfl, by decide, HK.out, HD.out⟩
    · obtain ⟨hb5, hs5, g0, g1, g2, g3⟩ := al_five W2 (.cells #[.int .i64 7] 3) (.cells #[.int .i64 7] 3) (.cells #[.int .i64 3, .int .i64 7] 3) (.cells #[.int .i64 8, .int .i64 1] 3) (.cells #[.slice none 0 0, .slice (some ⟨W2.heap.size, 0, none⟩) 1 1, .slice (some ⟨W2.heap.size + 1, 0, none⟩) 1 1, .slice (some ⟨W2.heap.size + 1 + 1, 0, none⟩) 2 2, .slice (some ⟨W2.heap.size + 1 + 1 + 1, 0, none⟩) 2 2] 22)
      have HK := Lib.hid (KSt.begin (TP := 48) (bc := W2.heap.size + 1 + 1 + 1) (P := [8, 1]) r2 p2 q2 hgw hgw1 hb5 (by omega) (by omega) (fun j hj => by
        have h := heap_alloc_new (((W2.alloc (.cells #[.int .i64 7] 3)).alloc (.cells #[.int .i64 7] 3)).alloc (.cells #[.int .i64 3, .int .i64 7] 3)) (.cells #[.int .i64 8, .int .i64 1] 3)
        rw [show (((W2.alloc (.cells #[.int .i64 7] 3)).alloc (.cells #[.int .i64 7] 3)).alloc (.cells #[.int .i64 3, .int .i64 7] 3)).heap.size = W2.heap.size + 1 + 1 + 1 by simp] at h
        have h2 := two_of (g3.trans h)
        have hj2 : j < 2 := hj
        obtain rfl | rfl : j = 0 ∨ j = 1 := by omega
        · exact h2.1
        · exact h2.2))
      have HD := Lib.hid (d2.go hb5)
      clear hb5 hs5 g0 g1 g2 g3 r2 p2 q2 d2
      go_wp2
      go_meet
      exact ⟨_, _, 2, [8, 1], rfl, rfl, by decide, HK.out, HD.out⟩
  case rest =>
    clear p2 r2 d2 q2 hgs
    obtain ⟨bc, C, m, P, rfl, hmP, hm2, hst, hdi⟩ := hcut
    have HMP := Lib.hid hmP
    clear hmP
    have hlo := hst.lo
    go_wp2_with (go_at_call 28; (with_reducible refine (N3.out _ hdi).mono ?_); rintro e w3 ⟨⟨kk, hkk, rfl⟩, hg3, hd3⟩)
    have HS0 := Lib.hid (hst.grown hg3)
    have HD0 := Lib.hid hd3
    obtain ⟨ip, hip, hz0, hz1, hz2⟩ := infop
    have hug := Tryd.underlying26
    clear hst hdi hg3 hd3
    go_loopw [5] (fun i wr => ∃ (j : Nat) (acc : List Prim) (ao : Option Addr) (cap : Nat), i = .int .i64 j ∧ j ≤ 2 ∧ acc.length ≤ (2 - j) * 2 ∧ KSt 28 48 w wr dg gb bc C P (1 + (k : Int)) (.slice ao acc.length cap) acc ∧ DiceAt B wr dg) (fun i _ => (intOf i).toNat)
    case atStart => exact ⟨kk, [], none, 0, rfl, by omega, Nat.zero_le _, HS0.out, HD0.out⟩
    case round =>
      clear HS0 HD0
      obtain ⟨j, acc, ao, cap, rfl, hj2, hal, hst, hdi⟩ := hrel
      by_cases hj : 0 < j
      · have hj' : (0 : Int) < (j : Int) := by omega
        have HS := Lib.hid hst
        have HD := Lib.hid hdi
        clear hst hdi
        go_wp2
        go_loopw [30] (fun i wr => ∃ (q : Nat) (acc : List Prim) (ao : Option Addr) (cap : Nat), i = .int .i64 q ∧ q ≤ m ∧ acc.length ≤ (2 - j) * 2 + q ∧ KSt 28 48 w wr dg gb bc C P (1 + (k : Int)) (.slice ao acc.length cap) acc ∧ DiceAt B wr dg) (fun i _ => m - (intOf i).toNat)
        case atStart => exact ⟨0, acc, ao, cap, rfl, Nat.zero_le _, by omega, HS.out, HD.out⟩
        case round =>
          clear HS HD
          obtain ⟨q, acc, ao, cap, rfl, hq, hal, hst, hdi⟩ := hrel
          by_cases hqm : q < m
          · have cP := hst.cod q (by rw [← HMP.out]; exact hqm)
            obtain ⟨c, hc⟩ : ∃ c, c = P.getD q 0 := ⟨_, rfl⟩
            rw [← hc] at cP
            have BY0 := bytes_any B dg 4 wr (by decide) hdi
            rw [show ((4 : Nat) : Int) = 4 from rfl] at BY0
            have BY := Lib.hid BY0
            clear hc BY0
            go_upto_region 10 with (go_at_call 50; (with_reducible refine (BY.out).mono ?_); rintro e wb ⟨⟨raw, hraw, rfl⟩, hgb, hdb⟩)
            have hs1 := hst.grown hgb
            have hs2 := hs1.below ((Below.refl wb.heap.size wb).alloc (o := .cells #[.int .i64 c, .string raw] 48) (Nat.le_refl _))
            have hd2 := hdb.go ((Below.refl wb.heap.size wb).alloc (o := .cells #[.int .i64 c, .string raw] 48) (Nat.le_refl _))
            have hp0 : (wb.alloc (.cells #[.int .i64 c, .string raw] 48)).heap[wb.heap.size]? = some (.cells #[.int .i64 c, .string raw] 48 (0, 0)) := heap_alloc_new _ _
            have hCp : C ≤ wb.heap.size := hs1.lo.2.2.2.2
            have hnp : ∀ b, (Value.slice ao acc.length cap).ownBlock = some b → b ≠ wb.heap.size := fun b e => by have := (hs1.own.lt b e).2; omega
            obtain ⟨wa, hwa⟩ : ∃ v, v = wb.alloc (.cells #[.int .i64 c, .string raw] 48) := ⟨_, rfl⟩
            rw [← hwa] at hs2 hd2 hp0
            rw [← hwa]
            obtain ⟨pb, hpb⟩ : ∃ v, v = wb.heap.size := ⟨_, rfl⟩
            rw [← hpb] at hp0 hCp hnp
            rw [← hpb]
            have HS := Lib.hid hs2
            have HD := Lib.hid hd2
            have HP0 := Lib.hid hp0
            have HNP := Lib.hid hnp
            clear hwa hpb hs1 hs2 hd2 hp0 hst hdi hgb hdb cP BY hnp
            have RW := Lib.hid (fun wx : World => rraw_any c wx)
            have hrle := rawI_le c
            obtain ⟨rn, hrn⟩ : ∃ v, v = rawI c := ⟨_, rfl⟩
            rw [← hrn] at RW hrle
            clear hrn
            go_loopw [] (fun wr => ∃ raw : ByteArray, raw.size ≤ 700 ∧ wr.heap[pb]? = some (.cells #[.int .i64 c, .string raw] 48 (0, 0)) ∧ KSt 28 48 w wr dg gb bc C P (1 + (k : Int)) (.slice ao acc.length cap) acc ∧ DiceAt B wr dg) (fun wr => match wr.cell? ⟨pb, 1, none⟩ with | some v => 700 - strSize v | none => 0)
            case atStart => exact ⟨raw, by omega, HP0.out, HS.out, HD.out⟩
            case round =>
              clear HS HD HP0
              obtain ⟨raw, hr7, hp, hst, hdi⟩ := hrel
              have k1 := two_of hp
              have HK1 := Lib.hid k1
              have hg := lt_of_block hp
              have HST := Lib.hid hst
              have HDI := Lib.hid hdi
              have HPB := Lib.hid hp
              clear hst hdi hp
              go_wp2
              go_region_held3 (fun w' => w'.cell? ⟨pb, 0, none⟩ = some (.int .i64 c) ∧ w'.cell? ⟨pb, 1, none⟩ = some (.string raw)) (first | exact k1 | exact k2)
                (first | (go_at_call 51; refine (RW.out _).mono ?_; rintro e w2 ⟨rfl, hb2⟩; have k2 := two_keep hb2 hg k1))
              have st2 := (HST.out.below ((Below.refl wr.heap.size wr).drew)).below hb2
              have di2 := (HDI.out.go ((Below.refl wr.heap.size wr).drew)).go hb2
              have p2 := keepB hb2 hg HPB.out
              have HS2 := Lib.hid st2
              have HD2 := Lib.hid di2
              have HP2 := Lib.hid p2
              by_cases hlt : (raw.size : Int) < rn
              · have hcat : ¬ 9223372036854775807 < raw.size + 1 := by omega
                obtain ⟨f1, f2⟩ := free_two p2
                clear st2 di2 p2 hb2
                go_wp2
                go_roundw
                case rel => exact ⟨raw ++ { data := #[1] }, by rw [ByteArray.size_append]; show raw.size + 1 ≤ _; omega, two_set1 HP2.out _, HS2.out.other hCp HNP.out _ _, DiceAt.setNew HD2.out (by omega) _ _⟩
                case measure =>
                  rw [(two_of (two_set1 HP2.out _)).2, HK1.out.2]
                  show 700 - (raw ++ { data := #[1] }).size < 700 - raw.size
                  rw [ByteArray.size_append]
                  show 700 - (raw.size + 1) < _
                  omega
              · obtain ⟨d1, d2⟩ := two_of st2.grp
                have hown2 := st2.own
                have hCs : C ≤ w2.heap.size := st2.lo.2.2.2.2
                have hgC : gb < C := by omega
                clear st2 di2 p2 hb2
                go_wp2_with (at_builtin; refine wpList_append_own _ rfl (.tmp 49) (.tmp 51) 26 rfl C 48 ip _ 2 24 hug hip hz0 hz1 hz2 rfl (by decide) _ acc.length (primCells acc) rfl (hown2.alloc _) ⟨w2.heap.size, 0, none⟩ 1 1 [.int .i64 c, .string raw] rfl rfl (cells_new _ _ _ _ rfl) (by intro u hu; simp at hu; rcases hu with rfl | rfl <;> rfl) (by unfold maxLen; omega) (by omega) (by simp; omega) ?_; intro v' w5 hown5 hgrow _; obtain ⟨g', cap', rfl, -, -⟩ := hown5.form (Nat.succ_pos _); have hgw5 : w2.grownBy w5 (Value.slice ao acc.length cap).ownBlock := gtrans (galloc w2 _ _) hgrow; have hpush := Lib.hid (HS2.out.push (by unfold maxLen; omega) hown5 hgw5); have hdice := Lib.hid (HS2.out.dice (v' := .slice (some ⟨g', 0, none⟩) (acc.length + 1) cap') HD2.out hgw5); have p5 := (own_kept HS2.out.own hgw5 gb hgC (by omega)).trans HS2.out.grp; obtain ⟨z1, z2⟩ := free_two p5; obtain ⟨y1, y2⟩ := two_of p5; clear p5 hown5 hgrow hgw5)
                go_roundw
                case rel => exact ⟨q + 1, acc ++ [(c, raw)], some ⟨g', 0, none⟩, cap', by go_num, by omega, by rw [List.length_append]; show acc.length + 1 ≤ _; omega, by rw [List.length_append]; exact hpush.out, hdice.out⟩
                case measure => simp [intOf]; omega
          · obtain rfl : q = m := by omega
            have HS := Lib.hid hst
            have HD := Lib.hid hdi
            clear hst hdi
            go_wp2
            go_roundw
            case rel => exact ⟨j - 1, acc, ao, cap, by first | go_num | (congr 1; omega), by omega, by omega, HS.out, HD.out⟩
            case measure => simp [intOf]; omega
      · obtain rfl : j = 0 := by omega
        have HS := Lib.hid hst
        have HD := Lib.hid hdi
        clear hst hdi
        go_upto_if 57 with (go_at_call 28; (with_reducible refine (N12.out _ HD.out).mono ?_); rintro e w4 ⟨⟨k2, hk2, rfl⟩, hg4, d4⟩)
        have st4 := HS.out.grown hg4
        have HD4 := Lib.hid d4
        by_cases h1 : k2 = 1
        · subst h1
          have HS4 := Lib.hid st4
          clear st4 hg4 d4
          go_wp2_with (go_at_call 28; (with_reducible refine (N6.out _ HD4.out).mono ?_); rintro e w5 ⟨⟨k3, hk3, rfl⟩, hg5, d5⟩; have st5 := HS4.out.grown hg5; have st6 := st5.kind (k' := (k3 : Int)); have d6 : DiceAt B (w5.setCell ⟨gb, 0, none⟩ (.int .i64 (k3 : Int))) dg := DiceAt.setNew d5 (by omega) _ _; obtain ⟨f1, f2⟩ := free_two st5.grp; obtain ⟨e1, e2⟩ := two_of st5.grp; obtain ⟨g1, g2⟩ := two_of st6.grp; obtain ⟨h1, h2⟩ := free_two st6.res; obtain ⟨i1, i2⟩ := two_of st6.res; have HF := Lib.hid (st6.final d6 (by omega)); have HQ := Lib.hid (two_put st6.res (.int .i64 (k3 : Int)) (.slice ao acc.length cap)); clear st5 st6 d5 d6)
          refine bodyPost_ret (v := .agg #[.int .i64 (k3 : Int), .slice ao acc.length cap]) ?_ ?_ HF.out
          · have q0 := HQ.out.1
            have q1 := HQ.out.2
            simp [results, Tryd.results27, go_sem, q0, q1]
          · rfl
        · have hk1 : ((k2 : Int) == 1) = false := by simp; omega
          obtain ⟨g1, g2⟩ := two_of st4.grp
          obtain ⟨h1, h2⟩ := free_two st4.res
          obtain ⟨i1, i2⟩ := two_of st4.res
          have HF := Lib.hid (st4.final HD4.out (by omega))
          have HQ := Lib.hid (two_put st4.res (.int .i64 (1 + (k : Int))) (.slice ao acc.length cap))
          clear st4 d4 hg4
          go_wp2
          refine bodyPost_ret (v := .agg #[.int .i64 (1 + (k : Int)), .slice ao acc.length cap]) ?_ ?_ HF.out
          · have q0 := HQ.out.1
            have q1 := HQ.out.2
            simp [results, Tryd.results27, go_sem, q0, q1]
          · rfl

end Go.Proofs.YtdmgmfdmakheiaaDoor

namespace Go.Proofs.YtdmgmfdmakheiaaDoor
open Go.ChangeShapes Go.WideShapes Go.ChangeAt Go.RowKit
set_option linter.unusedVariables false
set_option linter.unusedSimpArgs false

/-- Some list of groups. -/
def SomeGroups (e : Ending) (w' : World) : Prop :=
  ∃ ai li ci G, e = .returned (.slice ai li ci) ∧ GroupsAt w'.heap.size w' (.slice ai li ci) G ∧ G.length ≤ 3 ∧ cntG G ≤ 12
/-- Some list of groups, as a row that the call has made. -/
def SomeRow (TG : TypeId) (w : World) (e : Ending) (w' : World) : Prop :=
  ∃ ao cap A, e = .returned (.slice ao (List.length A) cap) ∧ GRow TG w.heap.size w' (.slice ao A.length cap) A ∧ A.length ≤ 3 ∧ cntG (grpsOf A) ≤ 12
theorem someGroups_of {TG : TypeId} {w w' : World} {e : Ending} (h : SomeRow TG w e w') : SomeGroups e w' := by
  obtain ⟨ao, cap, A, h1, h2, h3, h4⟩ := h
  have hl : (grpsOf A).length = A.length := by simp [grpsOf]
  exact ⟨ao, A.length, cap, grpsOf A, h1, h2.groups, by omega, h4⟩
set_option maxHeartbeats 1600000 in
set_option maxRecDepth 100000 in
theorem groups_row (B dg : Nat) (w : World) (hd : DiceAt B w dg) : Calls Tryd.prog 10 #[.pointer (some ⟨dg, 0, none⟩)] w fun e w' => SomeRow 28 w e w' ∧ w.grownBy w' (some dg) ∧ DiceAt B w' dg := by
  have N4 := Lib.hid (fun (wx : World) (hx : DiceAt B wx dg) => next_lit B dg 4 4 rfl wx (by decide) (by decide) hx)
  have KG := Lib.hid (fun (wx : World) (hx : DiceAt B wx dg) => kgroup_any B dg wx hx)
  have hgw := hd.lt
  have HD := Lib.hid hd
  obtain ⟨ip, hip, hz0, hz1, hz2⟩ := infog
  have hug := Tryd.underlying23
  clear hd
  go_enter Tryd.func10, Tryd.ntmps10
  go_wp2_with (go_at_call 28; (with_reducible refine (N4.out _ HD.out).mono ?_); rintro e w1 ⟨⟨n, hn, rfl⟩, hg1, hd1⟩)
  have HG1 := Lib.hid hg1
  have HD1 := Lib.hid hd1
  clear hg1 hd1
  go_loopw [3, 6] (fun v i wr => ∃ (j : Nat) (A : List Trip) (ao : Option Addr) (cap : Nat), i = .int .i64 j ∧ v = .slice ao A.length cap ∧ j ≤ n ∧ A.length ≤ j ∧ cntG (grpsOf A) ≤ 4 * j ∧ GRow 28 w.heap.size wr (.slice ao A.length cap) A ∧ w.grownBy wr (some dg) ∧ DiceAt B wr dg) (fun _ i _ => n - (intOf i).toNat)
  case atStart => exact ⟨0, [], none, 0, rfl, rfl, Nat.zero_le _, Nat.le_refl _, Nat.le_refl _, GRow.nil _ _ _, HG1.out, HD1.out⟩
  case round =>
    clear HG1 HD1
    obtain ⟨j, A, ao, cap, rfl, rfl, hj, hAj, hcj, hrow, hgr, hdi⟩ := hrel
    by_cases hlt : j < n
    · have hwr := hgr.size
      have hlt1 : ∀ b, (Value.slice ao A.length cap).ownBlock = some b → b < wr.heap.size := fun b e => (hrow.1.lt b e).2
      have HR := Lib.hid hrow
      have HGR := Lib.hid hgr
      have HDI := Lib.hid hdi
      have HL := Lib.hid hlt1
      clear hrow hgr hdi hlt1
      go_wp2_with (first
        | (go_at_call 27; (with_reducible refine (KG.out _ HDI.out).mono ?_); rintro e w2 ⟨⟨k, ai, li, ci, L, rfl, hp, hl4, hfr⟩, hg2, hd2⟩; have hrow2 := HR.out.kept hg2 (fun r e => by cases e; exact hgw); have hown2 := hrow2.1; have hw2 := hg2.size; have HP := Lib.hid hp; have HFR := Lib.hid hfr; have HR2 := Lib.hid hrow2; have HG2 := Lib.hid hg2; have HD2 := Lib.hid hd2; clear hp hfr hrow2 hg2 hd2)
        | (at_builtin; refine wpList_append_lies _ rfl (.tmp 8) (.tmp 11) 23 rfl w.heap.size 28 ip _ 2 32 hug hip hz0 hz1 hz2 rfl (by decide) _ A.length (gCells A) rfl (hown2.alloc _) ⟨w2.heap.size, 0, none⟩ 1 1 [.int .i64 k, .slice ai li ci] rfl rfl (cells_new _ _ _ _ rfl) (by intro u hu; simp at hu; rcases hu with rfl | rfl <;> rfl) (by decide) (by unfold maxLen; omega) (by omega) (by simp; omega) _ rfl ?_; intro g' cap' w3 hown3 hgrow hat hlt3))
      have hat2 : (Value.slice ao A.length cap).ownBlock = some g' ∨ g' = (w2.alloc (.cells #[.int .i64 k, .slice ai li ci] 28)).heap.size := hat
      have hgw3 : w2.grownBy w3 (Value.slice ao A.length cap).ownBlock := gtrans (galloc w2 _ _) hgrow
      have hpush := HR2.out.push (v' := .slice (some ⟨g', 0, none⟩) (A.length + 1) cap') (k := k) hown3 hgw3 (by
        rcases hat2 with h | h
        · exact .inl (by rw [h]; rfl)
        · refine .inr fun b e => ?_
          cases e
          show w2.heap.size ≤ g'
          rw [h]; simp) HP.out (fun hn b e => ⟨by have := HFR.out b e; omega, fun e' => by have h1 := HFR.out b e; have h2 := HL.out b e'; omega⟩)
      have hgr3 : w.grownBy w3 (some dg) := grown_own (gtrans HGR.out HG2.out) HR2.out.1 hgw3 (Nat.le_refl _)
      have hdi3 : DiceAt B w3 dg := HD2.out.same fun q hq => own_kept HR2.out.1 hgw3 q (by omega) (by omega)
      have HPU := Lib.hid hpush
      have HGR3 := Lib.hid hgr3
      have HDI3 := Lib.hid hdi3
      clear hpush hgr3 hdi3 hown3 hgrow hgw3 hat hat2
      go_roundw
      case rel => exact ⟨j + 1, A ++ [(k, .slice ai li ci, L)], some ⟨g', 0, none⟩, cap', by go_num, by rw [List.length_append]; rfl, by omega, by rw [List.length_append]; show A.length + 1 ≤ _; omega, by rw [cnt_snoc]; omega, by rw [List.length_append]; exact HPU.out, HGR3.out, HDI3.out⟩
      case measure => simp [intOf]; omega
    · have HF : Hid (SomeRow 28 w (.returned (.slice ao A.length cap)) wr ∧ w.grownBy wr (some dg) ∧ DiceAt B wr dg) := ⟨⟨ao, cap, A, rfl, hrow, by omega, by omega⟩, hgr, hdi⟩
      clear hrow hgr hdi
      go_wp2
      go_ret
      exact HF.out
theorem groups_any (B dg : Nat) (w : World) (hd : DiceAt B w dg) : Calls Tryd.prog 10 #[.pointer (some ⟨dg, 0, none⟩)] w fun e w' => SomeGroups e w' ∧ w.grownBy w' (some dg) ∧ DiceAt B w' dg :=
  (groups_row B dg w hd).mono fun e w' h => ⟨someGroups_of h.1, h.2⟩

theorem groups_one (w : World) (k : Int) (T : TypeId) : GroupsAt (w.alloc (.cells #[.int .i64 k, .slice none 0 0] T)).heap.size (w.alloc (.cells #[.int .i64 k, .slice none 0 0] T)) (.slice (some ⟨w.heap.size, 0, none⟩) 1 1) [(k, [])] := by
  refine ⟨_, 1, rfl, Nat.le_refl _, by unfold maxLen; decide, fun j hj => ?_⟩
  obtain rfl : j = 0 := by simpa using hj
  have h := two_new w (.int .i64 k) (.slice none 0 0) T
  exact ⟨w.heap.size, 0, k, [], .slice none 0 0, rfl, rfl, by simp, h.1, h.2, none, 0, rfl, Nat.le_refl _, Nat.zero_le _, fun j hj => absurd hj (Nat.not_lt_zero _)⟩
theorem enc_one : encGS [(1, [])] = { data := #[45, 65, 65, 65] } ∧ encGE [(1, [])] = 0 := by decide +kernel
set_option maxRecDepth 100000 in
theorem awake4_any (w : World) (hT : Tbs w) : Calls Tryd.prog 9 #[] w fun e w' => e = .returned (.bool true) ∧ Below w.heap.size w w' := by
  have b0 := (Below.refl w.heap.size w).alloc (o := .cells #[.int .i64 1, .slice none 0 0] 28) (Nat.le_refl _)
  have EN0 := enc_any _ _ (w.alloc (.cells #[.int .i64 1, .slice none 0 0] 28)) (groups_one w 1 28) (by decide) (by decide) (hT.go b0)
  rw [enc_one.1, enc_one.2] at EN0
  have EN := Lib.hid EN0
  clear EN0 hT
  go_enter Tryd.func9, Tryd.ntmps9
  go_wp2_with (go_at_call 12; (with_reducible refine (EN.out).mono ?_); rintro e w3 ⟨rfl, hb3⟩)
  go_ret
  exact ⟨rfl, b0.trans (hb3.mono b0.size)⟩

end Go.Proofs.YtdmgmfdmakheiaaDoor
