/- The dice of version's statements: some version; and the sanity check. -/
import Derived.Test.YtmlmdidaldcoiaaDoorVrg
namespace Go.Proofs.YtmlmdidaldcoiaaDoor
open Go Go.Maps Go.ChangeShapes Go.WideShapes Go.ChangeAt Go.RowKit
set_option linter.unusedVariables false
set_option linter.unusedSimpArgs false

set_option maxHeartbeats 800000 in
set_option maxRecDepth 100000 in
theorem vword_any (B g b cap : Nat) (n : Nat) (ns : List ByteArray) (w : World) (h1 : 1 ≤ n) (hn : n < 2 ^ 62) (hl : ns.length = n) (hc : ∀ j s, ns[j]? = some s → w.cell? ⟨b, j, none⟩ = some (.string s)) (hb : b ≠ g) (hd : DiceAt B w g) :
    Calls Tryd.prog 20 #[.pointer (some ⟨g, 0, none⟩), .slice (some ⟨b, 0, none⟩) n cap] w fun e w' => (∃ s, s ∈ ns ∧ e = .returned (.string s)) ∧ w.grownBy w' (some g) ∧ DiceAt B w' g := by
  have N := Lib.hid (fun (wx : World) (hx : DiceAt B wx g) => next_any B g n wx h1 hn hx)
  go_enter Tryd.func20, Tryd.ntmps20
  have CC := Lib.hid hc
  clear hc
  go_wp2_with (go_at_call 21; (with_reducible refine (N.out _ hd).mono ?_); rintro e w1 ⟨⟨k, hk, rfl⟩, hg1, hd1⟩; go_loud ((have hk1 : k < ns.length := by omega); (have hk2 : (k : Int) < (n : Int) := by omega); (have hk3 : (0 : Int) ≤ (k : Int) := by omega); (have hm : ns[k] ∈ ns := List.getElem_mem hk1); (have hcell : w1.cell? ⟨b, k, none⟩ = some (.string ns[k]) := hg1.cell (CC.out k _ (List.getElem?_eq_getElem hk1)) (by intro e; have := Option.some.inj e; dsimp only at this; omega)); generalize ns[k] = s at hcell hm))
  go_ret
  exact ⟨⟨s, hm, rfl⟩, hg1, hd1⟩
theorem vcells_lits {w : World} {b : Nat} {T : TypeId} {cs : Array Value} (ns : List ByteArray) (h : w.heap[b]? = some (.cells cs T (0, 0))) (e : cs = (ns.map Value.string).toArray) : ∀ j s, ns[j]? = some s → w.cell? ⟨b, j, none⟩ = some (.string s) := by
  intro j s hj
  subst e
  simp [World.cell?, h, hj]
def vW1 : List ByteArray := [⟨#[75, 69, 82, 73]⟩, ⟨#[65, 67, 68, 67]⟩, ⟨#[75, 69, 82, 73]⟩, ⟨#[88, 88, 88, 88]⟩]
def vW2 : List ByteArray := [⟨#[107, 101, 114, 105]⟩, ⟨#[75, 69, 82]⟩, ⟨#[75, 69, 82, 73, 83]⟩, ⟨#[75, 69, 49, 73]⟩, ⟨#[]⟩]
theorem vW1_ok : ∀ s, s ∈ vW1 → s.size ≤ 5 := by decide
theorem vW2_ok : ∀ s, s ∈ vW2 → s.size ≤ 5 := by decide
/-- Some version that is given as a value. -/
def SomeV (e : Ending) : Prop := ∃ v : VD, WideV v ∧ v.p.size ≤ 5 ∧ e = .returned (.agg (vcs v))
theorem ret_vers1 {f : Func} {Q : Ending → World → Prop} {a : Act} {w : World} {g c : Nat} {x0 x1 x2 x3 x4 y0 y1 y2 y3 y4 : Value} (h : w.heap[g]? = some (.cells #[y0, y1, y2, y3, y4] 24 (0, 0))) (hres : f.results = #[.cell c 24]) (hc : a.tmps.getD c undef = .pointer (some ⟨g, 0, none⟩)) (hd : a.defers = [])
    (hQ : Q (.returned (.agg #[x0, x1, x2, x3, x4])) (set5 w g x0 x1 x2 x3 x4)) : bodyPost Tryd.prog f Q .ret a (set5 w g x0 x1 x2 x3 x4) := by
  refine bodyPost_ret (v := .agg #[x0, x1, x2, x3, x4]) ?_ hd hQ
  obtain ⟨q0, q1, q2, q3, q4⟩ := five_of (five_put h x0 x1 x2 x3 x4)
  obtain ⟨tm, df⟩ := a
  simp only [Array.getD_eq_getD_getElem?] at hc
  simp [results, hres, go_sem, hc, q0, q1, q2, q3, q4]
/-- The state of some: the result's block, the version's block g3, the dice. -/
structure SmS (B g : Nat) (w wx : World) (g3 : Nat) (p : ByteArray) (a b f z : Int) : Prop where
  r : wx.heap[w.heap.size]? = some (.cells #[.string ⟨#[]⟩, .int .i64 0, .int .i64 0, .int .i64 0, .int .i64 0] 24 (0, 0))
  v : wx.heap[g3]? = some (.cells #[.string p, .int .i64 a, .int .i64 b, .int .i64 f, .int .i64 z] 24 (0, 0))
  lo : g < w.heap.size ∧ w.heap.size < g3
  gr : w.grownBy wx (some g)
  d : DiceAt B wx g
theorem SmS.dice {B g : Nat} {w wx wn : World} {g3 : Nat} {p : ByteArray} {a b f z : Int} (h : SmS B g w wx g3 p a b f z) (hg : wx.grownBy wn (some g)) (hd : DiceAt B wn g) : SmS B g w wn g3 p a b f z :=
  ⟨keepG hg (by have := h.lo; omega) h.r, keepG hg (by have := h.lo; omega) h.v, h.lo, gtrans h.gr hg, hd⟩
theorem SmS.below {B g : Nat} {w wx wn : World} {g3 : Nat} {p : ByteArray} {a b f z : Int} (h : SmS B g w wx g3 p a b f z) (hb : Below wx.heap.size wx wn) : SmS B g w wn g3 p a b f z :=
  h.dice (grown_of_below hb (Nat.le_refl _) _) (h.d.go hb)
theorem SmS.set {B g : Nat} {w wx : World} {g3 : Nat} {p : ByteArray} {a b f z : Int} (h : SmS B g w wx g3 p a b f z) (j : Nat) (y : Value) {p' : ByteArray} {a' b' f' z' : Int} (e : (#[.string p, .int .i64 a, .int .i64 b, .int .i64 f, .int .i64 z] : Array Value).setIfInBounds j y = #[.string p', .int .i64 a', .int .i64 b', .int .i64 f', .int .i64 z']) : SmS B g w (wx.setCell ⟨g3, j, none⟩ y) g3 p' a' b' f' z' := by
  have hl := h.lo
  have hg := vgrown_set wx g3 j y
  refine ⟨(hg.block _ (lt_of_block h.r) (by intro e; have := Option.some.inj e; omega)).trans h.r, ?_, hl, grown_setNew h.gr (by omega) j y, h.d.same fun q hq => hg.block q (by have := h.d.lt; omega) (by intro e; have := Option.some.inj e; omega)⟩
  have := vheap_set h.v y (j := j)
  rw [e] at this
  exact this
theorem vZ_at {w : World} {b k : Nat} {T : TypeId} (h : w.heap[b]? = some (.cells #[.int .i64 (-1), .int .i64 16777215, .int .i64 16777216] T (0, 0))) (hk : k < 3) : ∃ y : Int, w.cell? ⟨b, k, none⟩ = some (.int .i64 y) ∧ -1 ≤ y ∧ y ≤ 16777216 := by
  rcases (by omega : k = 0 ∨ k = 1 ∨ k = 2) with rfl | rfl | rfl
  · exact ⟨-1, by simp [World.cell?, h], by decide, by decide⟩
  · exact ⟨16777215, by simp [World.cell?, h], by decide, by decide⟩
  · exact ⟨16777216, by simp [World.cell?, h], by decide, by decide⟩
theorem gtrans' {B g : Nat} {w wx : World} {g3 : Nat} {p : ByteArray} {a b f z : Int} (h : SmS B g w wx g3 p a b f z) (x0 x1 x2 x3 x4 : Value) : w.grownBy (set5 wx w.heap.size x0 x1 x2 x3 x4) (some g) := by
  have hl := h.lo
  exact grown_setNew (grown_setNew (grown_setNew (grown_setNew (grown_setNew h.gr (Nat.le_refl _) 0 x0) (Nat.le_refl _) 1 x1) (Nat.le_refl _) 2 x2) (Nat.le_refl _) 3 x3) (Nat.le_refl _) 4 x4
theorem dice' {B g : Nat} {w wx : World} {g3 : Nat} {p : ByteArray} {a b f z : Int} (h : SmS B g w wx g3 p a b f z) (x0 x1 x2 x3 x4 : Value) : DiceAt B (set5 wx w.heap.size x0 x1 x2 x3 x4) g := by
  have hl := h.lo.1
  exact ((((h.d.setNew hl 0 x0).setNew hl 1 x1).setNew hl 2 x2).setNew hl 3 x3).setNew hl 4 x4
set_option maxHeartbeats 6400000 in
set_option maxRecDepth 100000 in
theorem some_any (B g : Nat) (w : World) (hd : DiceAt B w g) : Calls Tryd.prog 9 #[.pointer (some ⟨g, 0, none⟩)] w fun e w' => SomeV e ∧ w.grownBy w' (some g) ∧ DiceAt B w' g := by
  have N3 := Lib.hid (fun (wx : World) (hx : DiceAt B wx g) => next_lit B g 3 3 rfl wx (by decide) (by decide) hx)
  have N6 := Lib.hid (fun (wx : World) (hx : DiceAt B wx g) => next_lit B g 6 6 rfl wx (by decide) (by decide) hx)
  have N12 := Lib.hid (fun (wx : World) (hx : DiceAt B wx g) => next_lit B g 12 12 rfl wx (by decide) (by decide) hx)
  have N18 := Lib.hid (fun (wx : World) (hx : DiceAt B wx g) => next_lit B g 18 18 rfl wx (by decide) (by decide) hx)
  have NM := Lib.hid (fun (wx : World) (hx : DiceAt B wx g) => next_lit B g 16777216 16777216 rfl wx (by decide) (by decide) hx)
  have hgw := hd.lt
  have r0 := heap_alloc_new w (.cells #[.string ⟨#[]⟩, .int .i64 0, .int .i64 0, .int .i64 0, .int .i64 0] 24)
  have q0 := galloc w (.cells #[.string ⟨#[]⟩, .int .i64 0, .int .i64 0, .int .i64 0, .int .i64 0] 24) (some g)
  have d0 := hd.below (C := w.heap.size) hgw ((Below.refl w.heap.size w).alloc (o := .cells #[.string ⟨#[]⟩, .int .i64 0, .int .i64 0, .int .i64 0, .int .i64 0] 24) (Nat.le_refl _))
  clear hd
  go_enter Tryd.func9, Tryd.ntmps9
  go_upto_region 1 with fail
  generalize w.alloc _ = w1 at r0 q0 d0 ⊢
  have hz1 := lt_of_block r0
  have WD := Lib.hid (vword_any B g w1.heap.size 4 4 vW1 (w1.alloc (.cells (vW1.map Value.string).toArray 9)) (by decide) (by decide) rfl (vcells_lits vW1 (heap_alloc_new _ _) rfl) (by omega) (d0.go ((Below.refl w1.heap.size w1).alloc (Nat.le_refl _) _)))
  have q1 := gtrans q0 (galloc w1 (.cells (vW1.map Value.string).toArray 9) (some g))
  have r1 := (Below.heap_alloc w1 (.cells (vW1.map Value.string).toArray 9) _ hz1).trans r0
  have HQ := Lib.hid (And.intro q1 r1)
  clear r0 q0 d0 q1 r1
  go_upto_region 2 with (first
    | (go_at_call 20; refine (WD.out).mono ?_; rintro e w2 ⟨⟨s0, hs0, rfl⟩, hg2, hd2⟩)
    | (go_at_call 21; (with_reducible refine (N3.out _ hd2).mono ?_); rintro e w3 ⟨⟨k1, hk1, rfl⟩, hg3, hd3⟩)
    | (go_at_call 21; (with_reducible refine (N3.out _ hd3).mono ?_); rintro e w4 ⟨⟨k2, hk2, rfl⟩, hg4, hd4⟩)
    | (go_at_call 21; (with_reducible refine (N3.out _ hd4).mono ?_); rintro e w5 ⟨⟨k3, hk3, rfl⟩, hg5, hd5⟩)
    | (go_at_call 21; (with_reducible refine (NM.out _ hd5).mono ?_); rintro e w6 ⟨⟨k4, hk4, rfl⟩, hg6, hd6⟩))
  have hw1 : w.heap.size < w1.heap.size := hz1
  have g27 := gtrans (gtrans (gtrans (gtrans hg2 hg3) hg4) hg5) hg6
  have b7 := (Below.refl w6.heap.size w6).alloc (o := .cells #[.string s0, .int .i64 (k1 : Int), .int .i64 (k2 : Int), .int .i64 (1 + (k3 : Int)), .int .i64 (k4 : Int)] 24) (Nat.le_refl _)
  have S7 : Hid (SmS B g w (w6.alloc (.cells #[.string s0, .int .i64 (k1 : Int), .int .i64 (k2 : Int), .int .i64 (1 + (k3 : Int)), .int .i64 (k4 : Int)] 24)) w6.heap.size s0 k1 k2 (1 + (k3 : Int)) k4) := by
    have r6 := keepG g27 (by omega) HQ.out.2
    have hz6 := lt_of_block r6
    exact Lib.hid ⟨(b7.block _ hz6).trans r6, heap_alloc_new _ _, ⟨hgw, hz6⟩, gtrans (gtrans HQ.out.1 g27) (grown_of_below b7 (Nat.le_refl _) _), hd6.go b7⟩
  have hs5 := vW1_ok s0 hs0
  generalize w6.alloc _ = w7 at S7 ⊢
  generalize w6.heap.size = g3 at S7 ⊢
  clear g27 b7 hg2 hg3 hg4 hg5 hg6 hd2 hd3 hd4 hd5 hd6 WD HQ hs0 hw1 hz1
  go_upto_region 3 with (go_at_call 21; (with_reducible refine (N12.out _ S7.out.d).mono ?_); rintro e w8 ⟨⟨k, hk, rfl⟩, hg8, hd8⟩)
  have S8 := Lib.hid (S7.out.dice hg8 hd8)
  clear S7 hg8 hd8
  by_cases h1 : k = 1
  · subst h1
    have hl8 := S8.out.lo
    have hz8 := lt_of_block S8.out.v
    have WD := Lib.hid (vword_any B g w8.heap.size 5 5 vW2 (w8.alloc (.cells (vW2.map Value.string).toArray 9)) (by decide) (by decide) rfl (vcells_lits vW2 (heap_alloc_new _ _) rfl) (by omega) (S8.out.d.go ((Below.refl w8.heap.size w8).alloc (Nat.le_refl _) _)))
    have S9' := Lib.hid (S8.out.below ((Below.refl w8.heap.size w8).alloc (o := .cells (vW2.map Value.string).toArray 9) (Nat.le_refl _)))
    go_upto_region 13 with (go_at_call 20; refine (WD.out).mono ?_; rintro e w10 ⟨⟨s1, hs1, rfl⟩, hg10, hd10⟩; go_loud ((have S10 := S9'.out.dice hg10 hd10); (have f10 := free_five S10.v); (have c10 := five_of S10.v); (have HS10 := Lib.hid S10); clear hg10 hd10 S10))
    · have hs5' := vW2_ok s1 hs1
      have S9 := HS10.out.set 0 (.string s1) (p' := s1) (a' := k1) (b' := k2) (f' := 1 + (k3 : Int)) (z' := k4) rfl
      clear c10 f10 HS10 WD S9' S8 hs1
      have HS := Lib.hid S9
      have c9 := five_of S9.v
      have d9 := five_of S9.r
      have f9 := free_five S9.r
      clear S9
      go_wp2
      refine ret_vers1 (x0 := .string s1) (x1 := .int .i64 (k1 : Int)) (x2 := .int .i64 (k2 : Int)) (x3 := .int .i64 (1 + (k3 : Int))) (x4 := .int .i64 (k4 : Int)) HS.out.r rfl rfl rfl ?_
      refine ⟨⟨⟨s1, (k1 : Int), (k2 : Int), (1 + (k3 : Int)), (k4 : Int)⟩, ⟨(by unfold wI; show _ ≤ (k1 : Int) ∧ (k1 : Int) ≤ _; omega), (by unfold wI; show _ ≤ (k2 : Int) ∧ (k2 : Int) ≤ _; omega), (by unfold wI; show _ ≤ (1 + (k3 : Int)) ∧ (1 + (k3 : Int)) ≤ _; omega), (by unfold wI; show _ ≤ (k4 : Int) ∧ (k4 : Int) ≤ _; omega)⟩, hs5', rfl⟩, gtrans' HS.out (.string s1) (.int .i64 (k1 : Int)) (.int .i64 (k2 : Int)) (.int .i64 (1 + (k3 : Int))) (.int .i64 (k4 : Int)), dice' HS.out (.string s1) (.int .i64 (k1 : Int)) (.int .i64 (k2 : Int)) (.int .i64 (1 + (k3 : Int))) (.int .i64 (k4 : Int))⟩
  by_cases h2 : k = 2
  · subst h2
    go_upto_region 13 with (go_at_call 21; (with_reducible refine (N18.out _ S8.out.d).mono ?_); rintro e w10 ⟨⟨k5, hk5, rfl⟩, hg10, hd10⟩; go_loud ((have S10 := S8.out.dice hg10 hd10); (have f10 := free_five S10.v); (have c10 := five_of S10.v); (have HS10 := Lib.hid S10); clear hg10 hd10 S10))
    · have S9 := HS10.out.set 1 (.int .i64 ((k5 : Int) - 1)) (p' := s0) (a' := (k5 : Int) - 1) (b' := k2) (f' := 1 + (k3 : Int)) (z' := k4) rfl
      clear c10 f10 HS10 S8
      have HS := Lib.hid S9
      have c9 := five_of S9.v
      have d9 := five_of S9.r
      have f9 := free_five S9.r
      clear S9
      go_wp2
      refine ret_vers1 (x0 := .string s0) (x1 := .int .i64 ((k5 : Int) - 1)) (x2 := .int .i64 (k2 : Int)) (x3 := .int .i64 (1 + (k3 : Int))) (x4 := .int .i64 (k4 : Int)) HS.out.r rfl rfl rfl ?_
      refine ⟨⟨⟨s0, ((k5 : Int) - 1), (k2 : Int), (1 + (k3 : Int)), (k4 : Int)⟩, ⟨(by unfold wI; show _ ≤ ((k5 : Int) - 1) ∧ ((k5 : Int) - 1) ≤ _; omega), (by unfold wI; show _ ≤ (k2 : Int) ∧ (k2 : Int) ≤ _; omega), (by unfold wI; show _ ≤ (1 + (k3 : Int)) ∧ (1 + (k3 : Int)) ≤ _; omega), (by unfold wI; show _ ≤ (k4 : Int) ∧ (k4 : Int) ≤ _; omega)⟩, hs5, rfl⟩, gtrans' HS.out (.string s0) (.int .i64 ((k5 : Int) - 1)) (.int .i64 (k2 : Int)) (.int .i64 (1 + (k3 : Int))) (.int .i64 (k4 : Int)), dice' HS.out (.string s0) (.int .i64 ((k5 : Int) - 1)) (.int .i64 (k2 : Int)) (.int .i64 (1 + (k3 : Int))) (.int .i64 (k4 : Int))⟩
  by_cases h3 : k = 3
  · subst h3
    go_upto_region 13 with (go_at_call 21; (with_reducible refine (N6.out _ S8.out.d).mono ?_); rintro e w10 ⟨⟨k5, hk5, rfl⟩, hg10, hd10⟩; go_loud ((have S10 := S8.out.dice hg10 hd10); (have f10 := free_five S10.v); (have c10 := five_of S10.v); (have HS10 := Lib.hid S10); clear hg10 hd10 S10))
    · have S9 := HS10.out.set 3 (.int .i64 ((k5 : Int) - 1)) (p' := s0) (a' := k1) (b' := k2) (f' := (k5 : Int) - 1) (z' := k4) rfl
      clear c10 f10 HS10 S8
      have HS := Lib.hid S9
      have c9 := five_of S9.v
      have d9 := five_of S9.r
      have f9 := free_five S9.r
      clear S9
      go_wp2
      refine ret_vers1 (x0 := .string s0) (x1 := .int .i64 (k1 : Int)) (x2 := .int .i64 (k2 : Int)) (x3 := .int .i64 ((k5 : Int) - 1)) (x4 := .int .i64 (k4 : Int)) HS.out.r rfl rfl rfl ?_
      refine ⟨⟨⟨s0, (k1 : Int), (k2 : Int), ((k5 : Int) - 1), (k4 : Int)⟩, ⟨(by unfold wI; show _ ≤ (k1 : Int) ∧ (k1 : Int) ≤ _; omega), (by unfold wI; show _ ≤ (k2 : Int) ∧ (k2 : Int) ≤ _; omega), (by unfold wI; show _ ≤ ((k5 : Int) - 1) ∧ ((k5 : Int) - 1) ≤ _; omega), (by unfold wI; show _ ≤ (k4 : Int) ∧ (k4 : Int) ≤ _; omega)⟩, hs5, rfl⟩, gtrans' HS.out (.string s0) (.int .i64 (k1 : Int)) (.int .i64 (k2 : Int)) (.int .i64 ((k5 : Int) - 1)) (.int .i64 (k4 : Int)), dice' HS.out (.string s0) (.int .i64 (k1 : Int)) (.int .i64 (k2 : Int)) (.int .i64 ((k5 : Int) - 1)) (.int .i64 (k4 : Int))⟩
  by_cases h4 : k = 4
  · subst h4
    have hl8 := S8.out.lo
    have hz8 := lt_of_block S8.out.v
    have hb0 := heap_alloc_new w8 (.cells #[.int .i64 (-1), .int .i64 16777215, .int .i64 16777216] 3)
    have S9' := Lib.hid (S8.out.below ((Below.refl w8.heap.size w8).alloc (o := .cells #[.int .i64 (-1), .int .i64 16777215, .int .i64 16777216] 3) (Nat.le_refl _)))
    go_upto_region 13 with (go_at_call 21; (with_reducible refine (N3.out _ S9'.out.d).mono ?_); rintro e w10 ⟨⟨k5, hk5, rfl⟩, hg10, hd10⟩; go_loud ((have hb3 := keepG hg10 (by omega) hb0); (obtain ⟨y, hcy, hy1, hy2⟩ := vZ_at hb3 hk5); (have hi1 : (k5 : Int) < 3 := by omega); (have hi2 : (0 : Int) ≤ (k5 : Int) := by omega); (have S10 := S9'.out.dice hg10 hd10); (have f10 := free_five S10.v); (have c10 := five_of S10.v); (have HS10 := Lib.hid S10); clear hg10 hd10 S10 hb3 hb0))
    · have S9 := HS10.out.set 4 (.int .i64 y) (p' := s0) (a' := k1) (b' := k2) (f' := 1 + (k3 : Int)) (z' := y) rfl
      clear c10 f10 HS10 S9' S8 hcy
      have HS := Lib.hid S9
      have c9 := five_of S9.v
      have d9 := five_of S9.r
      have f9 := free_five S9.r
      clear S9
      go_wp2
      refine ret_vers1 (x0 := .string s0) (x1 := .int .i64 (k1 : Int)) (x2 := .int .i64 (k2 : Int)) (x3 := .int .i64 (1 + (k3 : Int))) (x4 := .int .i64 y) HS.out.r rfl rfl rfl ?_
      refine ⟨⟨⟨s0, (k1 : Int), (k2 : Int), (1 + (k3 : Int)), y⟩, ⟨(by unfold wI; show _ ≤ (k1 : Int) ∧ (k1 : Int) ≤ _; omega), (by unfold wI; show _ ≤ (k2 : Int) ∧ (k2 : Int) ≤ _; omega), (by unfold wI; show _ ≤ (1 + (k3 : Int)) ∧ (1 + (k3 : Int)) ≤ _; omega), (by unfold wI; show _ ≤ y ∧ y ≤ _; omega)⟩, hs5, rfl⟩, gtrans' HS.out (.string s0) (.int .i64 (k1 : Int)) (.int .i64 (k2 : Int)) (.int .i64 (1 + (k3 : Int))) (.int .i64 y), dice' HS.out (.string s0) (.int .i64 (k1 : Int)) (.int .i64 (k2 : Int)) (.int .i64 (1 + (k3 : Int))) (.int .i64 y)⟩
  by_cases h5 : k = 5
  · subst h5
    go_upto_region 13 with (go_at_call 21; (with_reducible refine (N18.out _ S8.out.d).mono ?_); rintro e w10 ⟨⟨k5, hk5, rfl⟩, hg10, hd10⟩; go_loud ((have S10 := S8.out.dice hg10 hd10); (have f10 := free_five S10.v); (have c10 := five_of S10.v); (have HS10 := Lib.hid S10); clear hg10 hd10 S10))
    · have S9 := HS10.out.set 2 (.int .i64 ((k5 : Int) - 1)) (p' := s0) (a' := k1) (b' := (k5 : Int) - 1) (f' := 1 + (k3 : Int)) (z' := k4) rfl
      clear c10 f10 HS10 S8
      have HS := Lib.hid S9
      have c9 := five_of S9.v
      have d9 := five_of S9.r
      have f9 := free_five S9.r
      clear S9
      go_wp2
      refine ret_vers1 (x0 := .string s0) (x1 := .int .i64 (k1 : Int)) (x2 := .int .i64 ((k5 : Int) - 1)) (x3 := .int .i64 (1 + (k3 : Int))) (x4 := .int .i64 (k4 : Int)) HS.out.r rfl rfl rfl ?_
      refine ⟨⟨⟨s0, (k1 : Int), ((k5 : Int) - 1), (1 + (k3 : Int)), (k4 : Int)⟩, ⟨(by unfold wI; show _ ≤ (k1 : Int) ∧ (k1 : Int) ≤ _; omega), (by unfold wI; show _ ≤ ((k5 : Int) - 1) ∧ ((k5 : Int) - 1) ≤ _; omega), (by unfold wI; show _ ≤ (1 + (k3 : Int)) ∧ (1 + (k3 : Int)) ≤ _; omega), (by unfold wI; show _ ≤ (k4 : Int) ∧ (k4 : Int) ≤ _; omega)⟩, hs5, rfl⟩, gtrans' HS.out (.string s0) (.int .i64 (k1 : Int)) (.int .i64 ((k5 : Int) - 1)) (.int .i64 (1 + (k3 : Int))) (.int .i64 (k4 : Int)), dice' HS.out (.string s0) (.int .i64 (k1 : Int)) (.int .i64 ((k5 : Int) - 1)) (.int .i64 (1 + (k3 : Int))) (.int .i64 (k4 : Int))⟩
  · have q1 : ((k : Int) == 1) = false := by simp; omega
    have q2 : ((k : Int) == 2) = false := by simp; omega
    have q3 : ((k : Int) == 3) = false := by simp; omega
    have q4 : ((k : Int) == 4) = false := by simp; omega
    have q5 : ((k : Int) == 5) = false := by simp; omega
    clear h1 h2 h3 h4 h5
    go_upto_region 13 with fail
    · have S9 := S8.out
      clear S8
      have HS := Lib.hid S9
      have c9 := five_of S9.v
      have d9 := five_of S9.r
      have f9 := free_five S9.r
      clear S9
      go_wp2
      refine ret_vers1 (x0 := .string s0) (x1 := .int .i64 (k1 : Int)) (x2 := .int .i64 (k2 : Int)) (x3 := .int .i64 (1 + (k3 : Int))) (x4 := .int .i64 (k4 : Int)) HS.out.r rfl rfl rfl ?_
      refine ⟨⟨⟨s0, (k1 : Int), (k2 : Int), (1 + (k3 : Int)), (k4 : Int)⟩, ⟨(by unfold wI; show _ ≤ (k1 : Int) ∧ (k1 : Int) ≤ _; omega), (by unfold wI; show _ ≤ (k2 : Int) ∧ (k2 : Int) ≤ _; omega), (by unfold wI; show _ ≤ (1 + (k3 : Int)) ∧ (1 + (k3 : Int)) ≤ _; omega), (by unfold wI; show _ ≤ (k4 : Int) ∧ (k4 : Int) ≤ _; omega)⟩, hs5, rfl⟩, gtrans' HS.out (.string s0) (.int .i64 (k1 : Int)) (.int .i64 (k2 : Int)) (.int .i64 (1 + (k3 : Int))) (.int .i64 (k4 : Int)), dice' HS.out (.string s0) (.int .i64 (k1 : Int)) (.int .i64 (k2 : Int)) (.int .i64 (1 + (k3 : Int))) (.int .i64 (k4 : Int))⟩
theorem awkV : vtS ⟨⟨#[75, 69, 82, 73]⟩, 1, 0, 1, 251⟩ = ⟨#[75, 69, 82, 73, 49, 48, 74, 83, 79, 78, 48, 48, 48, 48, 102, 98, 95]⟩ ∧ vtE ⟨⟨#[75, 69, 82, 73]⟩, 1, 0, 1, 251⟩ = 0 := by decide +kernel
set_option maxRecDepth 100000 in
theorem awake9_any (w : World) (hT : DB w) : Calls Tryd.prog 8 #[] w fun e w' => e = .returned (.bool true) ∧ Below w.heap.size w w' := by
  have TX : Hid (Calls Tryd.prog 11 #[.agg #[.string ⟨#[75, 69, 82, 73]⟩, .int .i64 1, .int .i64 0, .int .i64 1, .int .i64 251]] w (TxPostV ⟨⟨#[75, 69, 82, 73]⟩, 1, 0, 1, 251⟩ w)) := Lib.hid (vtext_any ⟨⟨#[75, 69, 82, 73]⟩, 1, 0, 1, 251⟩ w ⟨by unfold wI; decide, by unfold wI; decide, by unfold wI; decide, by unfold wI; decide⟩ hT)
  unfold TxPostV at TX
  rw [awkV.1, awkV.2] at TX
  go_enter Tryd.func8, Tryd.ntmps8
  go_wp2_with (go_at_call 11; (with_reducible refine (TX.out).mono ?_); rintro e w1 ⟨rfl, hb⟩)
  go_ret
  exact ⟨rfl, hb⟩
end Go.Proofs.YtmlmdidaldcoiaaDoor
