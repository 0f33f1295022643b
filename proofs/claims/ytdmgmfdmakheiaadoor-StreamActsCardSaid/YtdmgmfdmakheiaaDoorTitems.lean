/- The closure of the program's Decode of groups: it reads one primitive of the text that is left, which it shares with its maker. Then: The program's itemsOf: the primitives of a pattern, read by the closure, which holds the text that is left. -/
import Derived.Test.YtdmgmfdmakheiaaDoorQdec
import Derived.Test.YtdmgmfdmakheiaaDoorSread
import Derived.Test.YtdmgmfdmakheiaaDoorSgood
import Derived.Test.YtdmgmfdmakheiaaDoorTenc
import Derived.Test.YtdmgmfdmakheiaaDoorSdec
import Derived.Test.YtdmgmfdmakheiaaDoorPkit
namespace Go.Proofs.YtdmgmfdmakheiaaDoor
open Go.ChangeShapes Go.WideShapes Go.ChangeAt Go.RowKit
set_option linter.unusedVariables false
set_option linter.unusedSimpArgs false

theorem one_of1 {w : World} {g : Nat} {u : Value} {T : TypeId} (h : w.heap[g]? = some (.cells #[u] T (0, 0))) : w.cell? ⟨g, 0, none⟩ = some u := by simp [World.cell?, h]
theorem free_one1 {w : World} {g : Nat} {u : Value} {T : TypeId} (h : w.heap[g]? = some (.cells #[u] T (0, 0))) : w.frozen? ⟨g, 0, none⟩ = false := by simp [World.frozen?, h]
theorem one_set1 {w : World} {g : Nat} {u : Value} {T : TypeId} (h : w.heap[g]? = some (.cells #[u] T (0, 0))) (x : Value) : (w.setCell ⟨g, 0, none⟩ x).heap[g]? = some (.cells #[x] T (0, 0)) := by
  have hlt := lt_of_block h
  have h' : w.heap[g] = .cells #[u] T (0, 0) := by simpa [Array.getElem?_eq_getElem hlt] using h
  show (w.heap.modify g _)[g]? = _
  rw [Array.getElem?_eq_getElem (by simpa using hlt), Array.getElem_modify_self, h']
  rfl
theorem grown_set (w : World) (g o : Nat) (v : Value) : w.grownBy (w.setCell ⟨g, o, none⟩ v) (some g) :=
  ⟨rfl, rfl, rfl, by simp [World.setCell], fun i _ hne => heap_setCell_other w ⟨g, o, none⟩ i v (fun e => hne (by rw [e]))⟩
theorem grown_setAt {a b : World} {row : Option Nat} (h : a.grownBy b row) {k : Nat} (hk : a.heap.size ≤ k) (o : Nat) (v : Value) : a.grownBy (b.setCell ⟨k, o, none⟩ v) row :=
  ⟨h.os, h.tape, h.output, by simpa [World.setCell] using h.size, fun i hi hne => (heap_setCell_other b ⟨k, o, none⟩ i v (show i ≠ k by omega)).trans (h.block i hi hne)⟩
theorem grown_of_b {w w' : World} {C : Nat} (hb : Below C w w') (hC : w.heap.size ≤ C) (row : Option Nat) : w.grownBy w' row :=
  ⟨hb.os, hb.tape, hb.output, hb.size, fun i hi _ => hb.block i (by omega)⟩

theorem ydecQ_any (t : ByteArray) (w : World) (hr : t.size ≤ maxLen - 2) (hT : Tab w) (hL : Lay w) : Calls Tryd.prog 39 #[.string t] w fun e w' => e = .returned (.tuple #[.agg #[.int .i64 (decQ t).c, .string (decQ t).raw], .int .i64 (decQ t).n, .int .i64 (decQ t).e]) ∧ Below w.heap.size w w' := by
  rw [← decP_parts]; exact ydecp_any t w hr hT hL
/-- What the closure leaves: the result, and the text that is left. -/
def NextPost (gr : Nat) (c : Int) (raw : ByteArray) (ee : Int) (rest : ByteArray) (w : World) (e : Ending) (w' : World) : Prop :=
  e = .returned (.tuple #[.agg #[.int .i64 c, .string raw], .int .i64 ee]) ∧ w.grownBy w' (some gr) ∧ w'.heap[gr]? = some (.cells #[.string rest] 9 (0, 0))
set_option maxHeartbeats 800000 in
set_option maxRecDepth 100000 in
theorem nextc_err (gr : Nat) (tt : ByteArray) (code : Int) (w : World) (hm : tt.size ≤ maxLen - 2) (hr : w.heap[gr]? = some (.cells #[.string tt] 9 (0, 0))) (hT : Tab w) (hL : Lay w) (he : (decQ tt).e ≠ 0) : Calls Tryd.prog 38 #[.int .i64 code, .pointer (some ⟨gr, 0, none⟩)] w (NextPost gr 0 ⟨#[]⟩ (decQ tt).e tt w) := by
  have hgr := lt_of_block hr
  have b1 := (Below.refl w.heap.size w).alloc (o := .cells #[.int .i64 0, .string ⟨#[]⟩] 48) (Nat.le_refl _)
  have r1 := keepB b1 hgr hr
  have c1 := one_of1 r1
  have p1 : (w.alloc (.cells #[.int .i64 0, .string ⟨#[]⟩] 48)).heap[w.heap.size]? = some (.cells #[.int .i64 0, .string ⟨#[]⟩] 48 (0, 0)) := heap_alloc_new _ _
  have g1 := lt_of_block p1
  have D0 := ydecQ_any tt (w.alloc (.cells #[.int .i64 0, .string ⟨#[]⟩] 48)) hm (hT.go b1) (hL.go b1)
  obtain ⟨dc, hdc⟩ : ∃ v, v = (decQ tt).c := ⟨_, rfl⟩
  obtain ⟨dr, hdr⟩ : ∃ v, v = (decQ tt).raw := ⟨_, rfl⟩
  obtain ⟨dn, hdn⟩ : ∃ v, v = (decQ tt).n := ⟨_, rfl⟩
  obtain ⟨de, hde⟩ : ∃ v, v = (decQ tt).e := ⟨_, rfl⟩
  rw [← hdc, ← hdr, ← hdn, ← hde] at D0
  rw [← hde] at he
  rw [← hde]
  have D := Lib.hid D0
  have hden : (de != 0) = true := by simpa using he
  clear hdc hdr hdn hde D0 hT hL he hr
  go_enter Tryd.func38, Tryd.ntmps38
  go_upto_region 2 with (go_at_call 39; (with_reducible refine D.out.mono ?_); rintro e wn ⟨rfl, hb⟩)
  have hA := (Below.refl wn.heap.size wn).alloc (o := .cells #[.int .i64 dc, .string dr] 48) (Nat.le_refl _)
  have gn : w.heap.size < wn.heap.size := Nat.lt_of_lt_of_le g1 hb.size
  have p2 := keepB hA gn (keepB hb g1 p1)
  have r2 := keepB hA (Nat.lt_trans hgr gn) (keepB hb (Nat.lt_trans hgr g1) r1)
  have hw0 : w.grownBy (wn.alloc (.cells #[.int .i64 dc, .string dr] 48)) (some gr) := gtrans (gtrans (galloc w _ _) (grown_of_b hb (Nat.le_refl _) _)) (galloc _ _ _)
  obtain ⟨wa, hwa⟩ : ∃ wa, wa = wn.alloc (.cells #[.int .i64 dc, .string dr] 48) := ⟨_, rfl⟩
  rw [← hwa] at p2 r2 hw0
  rw [← hwa]
  obtain ⟨f1, f2⟩ := free_two p2
  obtain ⟨z1, z2⟩ := two_of p2
  clear hwa hA
  go_wp2
  refine bodyPost_ret (v := .tuple #[.agg #[.int .i64 0, .string ⟨#[]⟩], .int .i64 de]) ?_ ?_ ?_
  rotate_left
  · rfl
  · refine ⟨rfl, grown_setAt (grown_setAt hw0 (Nat.le_refl _) _ _) (Nat.le_refl _) _ _, ?_⟩
    have hne : gr ≠ w.heap.size := by omega
    exact (heap_setCell_other _ ⟨w.heap.size, 1, none⟩ gr _ hne).trans ((heap_setCell_other _ ⟨w.heap.size, 0, none⟩ gr _ hne).trans r2)
  · have q := two_put p2 (.int .i64 0) (.string ⟨#[]⟩)
    have q0 := q.1
    have q1 := q.2
    simp [results, Tryd.results38, go_sem, q0, q1]
set_option maxHeartbeats 800000 in
set_option maxRecDepth 100000 in
theorem nextc_code (gr : Nat) (tt : ByteArray) (code : Int) (w : World) (hm : tt.size ≤ maxLen - 2) (hr : w.heap[gr]? = some (.cells #[.string tt] 9 (0, 0))) (hT : Tab w) (hL : Lay w) (he : (decQ tt).e = 0) (hc : (decQ tt).c ≠ code) : Calls Tryd.prog 38 #[.int .i64 code, .pointer (some ⟨gr, 0, none⟩)] w (NextPost gr 0 ⟨#[]⟩ 7 tt w) := by
  have hgr := lt_of_block hr
  have b1 := (Below.refl w.heap.size w).alloc (o := .cells #[.int .i64 0, .string ⟨#[]⟩] 48) (Nat.le_refl _)
  have r1 := keepB b1 hgr hr
  have c1 := one_of1 r1
  have p1 : (w.alloc (.cells #[.int .i64 0, .string ⟨#[]⟩] 48)).heap[w.heap.size]? = some (.cells #[.int .i64 0, .string ⟨#[]⟩] 48 (0, 0)) := heap_alloc_new _ _
  have g1 := lt_of_block p1
  have D0 := ydecQ_any tt (w.alloc (.cells #[.int .i64 0, .string ⟨#[]⟩] 48)) hm (hT.go b1) (hL.go b1)
  rw [he] at D0
  obtain ⟨dc, hdc⟩ : ∃ v, v = (decQ tt).c := ⟨_, rfl⟩
  obtain ⟨dr, hdr⟩ : ∃ v, v = (decQ tt).raw := ⟨_, rfl⟩
  obtain ⟨dn, hdn⟩ : ∃ v, v = (decQ tt).n := ⟨_, rfl⟩
  rw [← hdc, ← hdr, ← hdn] at D0
  rw [← hdc] at hc
  have D := Lib.hid D0
  have hcn : (dc != code) = true := by simpa using hc
  clear hdc hdr hdn D0 hT hL he hr hc
  go_enter Tryd.func38, Tryd.ntmps38
  go_upto_region 2 with (go_at_call 39; (with_reducible refine D.out.mono ?_); rintro e wn ⟨rfl, hb⟩)
  have hA := (Below.refl wn.heap.size wn).alloc (o := .cells #[.int .i64 dc, .string dr] 48) (Nat.le_refl _)
  have gn : w.heap.size < wn.heap.size := Nat.lt_of_lt_of_le g1 hb.size
  have p2 := keepB hA gn (keepB hb g1 p1)
  have r2 := keepB hA (Nat.lt_trans hgr gn) (keepB hb (Nat.lt_trans hgr g1) r1)
  have xx := two_new wn (.int .i64 dc) (.string dr) 48
  have hw0 : w.grownBy (wn.alloc (.cells #[.int .i64 dc, .string dr] 48)) (some gr) := gtrans (gtrans (galloc w _ _) (grown_of_b hb (Nat.le_refl _) _)) (galloc _ _ _)
  obtain ⟨wa, hwa⟩ : ∃ wa, wa = wn.alloc (.cells #[.int .i64 dc, .string dr] 48) := ⟨_, rfl⟩
  rw [← hwa] at p2 r2 hw0 xx
  rw [← hwa]
  obtain ⟨f1, f2⟩ := free_two p2
  obtain ⟨z1, z2⟩ := two_of p2
  obtain ⟨x1, x2⟩ := xx
  clear hwa hA
  go_wp2
  refine bodyPost_ret (v := .tuple #[.agg #[.int .i64 0, .string ⟨#[]⟩], .int .i64 7]) ?_ ?_ ?_
  rotate_left
  · rfl
  · refine ⟨rfl, grown_setAt (grown_setAt hw0 (Nat.le_refl _) _ _) (Nat.le_refl _) _ _, ?_⟩
    have hne : gr ≠ w.heap.size := by omega
    exact (heap_setCell_other _ ⟨w.heap.size, 1, none⟩ gr _ hne).trans ((heap_setCell_other _ ⟨w.heap.size, 0, none⟩ gr _ hne).trans r2)
  · have q := two_put p2 (.int .i64 0) (.string ⟨#[]⟩)
    have q0 := q.1
    have q1 := q.2
    simp [results, Tryd.results38, go_sem, q0, q1]
set_option maxHeartbeats 800000 in
set_option maxRecDepth 100000 in
theorem nextc_good (gr : Nat) (tt : ByteArray) (code : Int) (w : World) (hm : tt.size ≤ maxLen - 2) (hr : w.heap[gr]? = some (.cells #[.string tt] 9 (0, 0))) (hT : Tab w) (hL : Lay w) (he : (decQ tt).e = 0) (hc : (decQ tt).c = code) : Calls Tryd.prog 38 #[.int .i64 code, .pointer (some ⟨gr, 0, none⟩)] w (NextPost gr code (decQ tt).raw 0 (restQ tt) w) := by
  have hgr := lt_of_block hr
  have b1 := (Below.refl w.heap.size w).alloc (o := .cells #[.int .i64 0, .string ⟨#[]⟩] 48) (Nat.le_refl _)
  have r1 := keepB b1 hgr hr
  have c1 := one_of1 r1
  have p1 : (w.alloc (.cells #[.int .i64 0, .string ⟨#[]⟩] 48)).heap[w.heap.size]? = some (.cells #[.int .i64 0, .string ⟨#[]⟩] 48 (0, 0)) := heap_alloc_new _ _
  have g1 := lt_of_block p1
  have D0 := ydecQ_any tt (w.alloc (.cells #[.int .i64 0, .string ⟨#[]⟩] 48)) hm (hT.go b1) (hL.go b1)
  obtain ⟨nn, hnn, hnt, -⟩ := decQ_ok tt he
  have hrq : restQ tt = tt.extract nn tt.size := by unfold restQ; rw [hnn]; rfl
  rw [he, hnn] at D0
  obtain ⟨dc, hdc⟩ : ∃ v, v = (decQ tt).c := ⟨_, rfl⟩
  obtain ⟨dr, hdr⟩ : ∃ v, v = (decQ tt).raw := ⟨_, rfl⟩
  rw [← hdc, ← hdr] at D0
  rw [← hdc] at hc
  rw [← hdr, hrq]
  subst hc
  have D := Lib.hid D0
  have hcn : (dc != dc) = false := by simp
  have hn0 : (0 : Int) ≤ (nn : Int) := by omega
  have hn1 : (nn : Int) ≤ (tt.size : Int) := by omega
  clear hdc hdr D0 hT hL he hr hnn hrq
  go_enter Tryd.func38, Tryd.ntmps38
  go_upto_region 2 with (go_at_call 39; (with_reducible refine D.out.mono ?_); rintro e wn ⟨rfl, hb⟩)
  have hA := (Below.refl wn.heap.size wn).alloc (o := .cells #[.int .i64 dc, .string dr] 48) (Nat.le_refl _)
  have gn : w.heap.size < wn.heap.size := Nat.lt_of_lt_of_le g1 hb.size
  have p2 := keepB hA gn (keepB hb g1 p1)
  have r2 := keepB hA (Nat.lt_trans hgr gn) (keepB hb (Nat.lt_trans hgr g1) r1)
  have x0 : (wn.alloc (.cells #[.int .i64 dc, .string dr] 48)).heap[wn.heap.size]? = some (.cells #[.int .i64 dc, .string dr] 48 (0, 0)) := heap_alloc_new _ _
  have hw0 : w.grownBy (wn.alloc (.cells #[.int .i64 dc, .string dr] 48)) (some gr) := gtrans (gtrans (galloc w _ _) (grown_of_b hb (Nat.le_refl _) _)) (galloc _ _ _)
  obtain ⟨wa, hwa⟩ : ∃ wa, wa = wn.alloc (.cells #[.int .i64 dc, .string dr] 48) := ⟨_, rfl⟩
  rw [← hwa] at p2 r2 hw0 x0
  rw [← hwa]
  obtain ⟨bn, hbn⟩ : ∃ bn, bn = wn.heap.size := ⟨_, rfl⟩
  rw [← hbn] at x0 gn
  rw [← hbn]
  clear hwa hA hbn
  have hne : w.heap.size ≠ gr := by omega
  have hne2 : bn ≠ gr := by omega
  have p3 := (heap_setCell_other wa ⟨gr, 0, none⟩ w.heap.size (.string (tt.extract nn tt.size)) hne).trans p2
  have x3 := (heap_setCell_other wa ⟨gr, 0, none⟩ bn (.string (tt.extract nn tt.size)) hne2).trans x0
  obtain ⟨x1, x2⟩ := two_of x0
  obtain ⟨y1, y2⟩ := two_of x3
  have c2 := one_of1 r2
  have f0 := free_one1 r2
  obtain ⟨f1, f2⟩ := free_two p3
  obtain ⟨z1, z2⟩ := two_of p3
  go_wp2
  refine bodyPost_ret (v := .tuple #[.agg #[.int .i64 dc, .string dr], .int .i64 0]) ?_ ?_ ?_
  rotate_left
  · rfl
  · refine ⟨rfl, grown_setAt (grown_setAt (gtrans hw0 (grown_set _ _ _ _)) (Nat.le_refl _) _ _) (Nat.le_refl _) _ _, ?_⟩
    have hne' : gr ≠ w.heap.size := by omega
    exact (heap_setCell_other _ ⟨w.heap.size, 1, none⟩ gr _ hne').trans ((heap_setCell_other _ ⟨w.heap.size, 0, none⟩ gr _ hne').trans (one_set1 r2 _))
  · have q := two_put p3 (.int .i64 dc) (.string dr)
    have q0 := q.1
    have q1 := q.2
    simp [results, Tryd.results38, go_sem, q0, q1]

end Go.Proofs.YtdmgmfdmakheiaaDoor

namespace Go.Proofs.YtdmgmfdmakheiaaDoor
open Go.ChangeShapes Go.WideShapes Go.ChangeAt Go.RowKit
set_option linter.unusedVariables false
set_option linter.unusedSimpArgs false

/-- What itemsOf holds while it reads: the closure's block gr with the text that is left, and the primitives that it has gathered. -/
def ISt (TS TP : TypeId) (W0 w wr : World) (gr : Nat) (v : Value) (acc : List Prim) (tt : ByteArray) : Prop :=
  Below W0.heap.size W0 wr ∧ w.grownBy wr (some gr) ∧ wr.heap[gr]? = some (.cells #[.string tt] TS (0, 0)) ∧ wr.ownsRow w.heap.size TP 2 v acc.length (primCells acc) ∧ (∀ x, x ∈ acc → x.2.size ≤ maxLen - 2) ∧ tt.size ≤ maxLen - 2
theorem ISt.start {TS TP : TypeId} {W0 w : World} {gr : Nat} {tt : ByteArray} (hB : Below W0.heap.size W0 w) (hr : w.heap[gr]? = some (.cells #[.string tt] TS (0, 0))) (ht : tt.size ≤ maxLen - 2) : ISt TS TP W0 w w gr (.slice none 0 0) [] tt :=
  ⟨hB, grown_of_below (Below.refl _ _) (Nat.le_refl _) _, hr, World.ownsRow_nil w _ _ _, fun x hx => (by cases hx), ht⟩
/-- The closure has been called. -/
theorem ISt.read {TS TP : TypeId} {W0 w wr wn : World} {gr : Nat} {v : Value} {acc : List Prim} {tt t' : ByteArray} (h : ISt TS TP W0 w wr gr v acc tt) (hg0 : W0.heap.size ≤ gr) (hgw : gr < w.heap.size) (hg : wr.grownBy wn (some gr)) (hr : wn.heap[gr]? = some (.cells #[.string t'] TS (0, 0))) (ht : t'.size ≤ maxLen - 2) : ISt TS TP W0 w wn gr v acc t' := by
  obtain ⟨h1, h2, h3, h4, h5, h6⟩ := h
  exact ⟨gbelow h1 hg h1.size hg0, gtrans h2 hg, hr, owns_grown h4 hg hgw, h5, ht⟩
theorem ISt.alloc {TS TP : TypeId} {W0 w wr : World} {gr : Nat} {v : Value} {acc : List Prim} {tt : ByteArray} (h : ISt TS TP W0 w wr gr v acc tt) (o : Obj) : ISt TS TP W0 w (wr.alloc o) gr v acc tt := by
  obtain ⟨h1, h2, h3, h4, h5, h6⟩ := h
  have hb := (Below.refl wr.heap.size wr).alloc (o := o) (Nat.le_refl _)
  exact ⟨h1.trans (hb.mono h1.size), gtrans h2 (galloc _ _ _), keepB hb (lt_of_block h3) h3, owns_below h4 hb, h5, h6⟩
/-- One primitive more. -/
theorem ISt.push {TS TP : TypeId} {W0 w wr w2 : World} {gr : Nat} {v v' : Value} {acc : List Prim} {tt r : ByteArray} {c : Int} (h : ISt TS TP W0 w wr gr v acc tt) (hgw : gr < w.heap.size) (h0 : W0.heap.size ≤ w.heap.size)
    (hown : w2.ownsRow w.heap.size TP 2 v' (acc.length + 1) (primCells acc ++ [.int .i64 c, .string r])) (hg : wr.grownBy w2 v.ownBlock) (hr : r.size ≤ maxLen - 2) : ISt TS TP W0 w w2 gr v' (acc ++ [(c, r)]) tt := by
  obtain ⟨h1, h2, h3, h4, h5, h6⟩ := h
  refine ⟨h1.grown hg h1.size (fun b e => by have := (h4.lt b e).1; omega), grown_own h2 h4 hg (Nat.le_refl _), (own_kept h4 hg gr hgw (lt_of_block h3)).trans h3, ?_, ?_, h6⟩
  · rw [List.length_append, primCells_append]; exact hown
  · intro x hx
    rcases List.mem_append.1 hx with hx | hx
    · exact h5 x hx
    · cases List.mem_singleton.1 hx
      exact hr

theorem nextc_bad (gr : Nat) (tt : ByteArray) (code : Int) (w : World) (hm : tt.size ≤ maxLen - 2) (hr : w.heap[gr]? = some (.cells #[.string tt] 9 (0, 0))) (hT : Tab w) (hL : Lay w) (hn : ¬ ((decQ tt).e = 0 ∧ (decQ tt).c = code)) : Calls Tryd.prog 38 #[.int .i64 code, .pointer (some ⟨gr, 0, none⟩)] w (NextPost gr 0 ⟨#[]⟩ (if (decQ tt).e ≠ 0 then (decQ tt).e else 7) tt w) := by
  by_cases he : (decQ tt).e = 0
  · rw [if_neg (fun h => h he)]
    exact nextc_code gr tt code w hm hr hT hL he (fun h => hn ⟨he, h⟩)
  · rw [if_pos he]
    exact nextc_err gr tt code w hm hr hT hL he

/-- What itemsOf leaves. -/
def ItemsPost (gr : Nat) (cs : List Int) (T0 : ByteArray) (w : World) (e : Ending) (w' : World) : Prop :=
  w.grownBy w' (some gr) ∧ ∃ ai li ci, e = .returned (.tuple #[.slice ai li ci, .int .i64 (gE cs T0)]) ∧ (gE cs T0 = 0 → w'.heap[gr]? = some (.cells #[.string (gR cs T0)] 9 (0, 0)) ∧ PrimsAt w'.heap.size w' (.slice ai li ci) (gL cs T0) ∧ ∀ b, (Value.slice ai li ci).ownBlock = some b → w.heap.size ≤ b)
set_option maxHeartbeats 4000000 in
set_option maxRecDepth 100000 in
theorem itemsOf_any (k : Int) (n gr : Nat) (T0 : ByteArray) (vp : Value) (W0 w : World) (hk : 1 ≤ k ∧ k ≤ 4) (hn : n ≤ 4096) (hm : T0.size ≤ maxLen - 2) (hT : Tbs W0) (hB : Below W0.heap.size W0 w) (hg0 : W0.heap.size ≤ gr) (hr : w.heap[gr]? = some (.cells #[.string T0] 9 (0, 0))) (hP : IntsAt w.heap.size w vp (permL k)) :
    Calls Tryd.prog 42 #[vp, .int .i64 (n : Int), .func (.func 38) #[] #[.pointer (some ⟨gr, 0, none⟩)]] w (ItemsPost gr (codesN k n) T0 w) := by
  have hgw := lt_of_block hr
  have hml := permL_len k
  have hm0 : 0 < (permL k).length := by
    have : permL k ≠ [] := fun e => by have := (permL_none k).1 e; omega
    exact List.length_pos_iff.2 this
  obtain ⟨P, hPe⟩ : ∃ P, P = permL k := ⟨_, rfl⟩
  have HPE := Lib.hid hPe
  rw [← hPe] at hP hml hm0
  obtain ⟨ap, capp, rfl, hlc, hrd⟩ := hP
  obtain ⟨bp, off, rfl, -, -⟩ := hrd 0 hm0
  have hpc : ∀ wr : World, w.grownBy wr (some gr) → ∀ j, j < P.length → wr.cell? ⟨bp, off + j, none⟩ = some (.int .i64 (P.getD j 0)) := by
    intro wr hg j hj
    obtain ⟨b', off', e, hb, hc⟩ := hrd j hj
    cases e
    have hne : bp ≠ gr := by
      intro e
      subst e
      simp only [World.cell?, hr] at hc
      rcases Nat.eq_zero_or_pos (off + j) with h | h
      · rw [h] at hc; cases hc
      · rw [Array.getElem?_eq_none (by simp; omega)] at hc; cases hc
    rw [cell_same (w := w) (hg.block bp hb (fun e => hne (by cases e; rfl)))]
    exact hc
  have HPC := Lib.hid hpc
  have HT := Lib.hid hT
  obtain ⟨m, hmP⟩ : ∃ m, m = P.length := ⟨_, rfl⟩
  rw [← hmP] at HPC hlc hml hm0
  rw [← hmP]
  have HMP := Lib.hid hmP
  have h0w := hB.size
  have HST := Lib.hid (ISt.start (TP := 48) hB hr hm)
  obtain ⟨ip, hip, hz0, hz1, hz2⟩ := infop
  have hug := Tryd.underlying26
  clear hrd hpc hmP hT hB hr hPe
  obtain ⟨cs0, hcs0⟩ : ∃ v, v = codesN k n := ⟨_, rfl⟩
  have HF0 := Lib.hid (show Far cs0 T0 [] (codesN k (n - 0)) T0 by rw [hcs0]; exact far_start _ _)
  rw [← hcs0]
  clear hcs0
  have hn63 : (n : Int) ≤ 4096 := by omega
  go_enter Tryd.func42, Tryd.ntmps42
  go_wp2
  go_loopw [8, 14] (fun v i wr => ∃ (j : Nat) (tt : ByteArray) (acc : List Prim) (ao : Option Addr) (cap : Nat), j ≤ n ∧ i = .int .i64 j ∧ v = .slice ao acc.length cap ∧ acc.length ≤ 2 * j ∧ Far cs0 T0 acc (codesN k (n - j)) tt ∧ ISt 9 48 W0 w wr gr (.slice ao acc.length cap) acc tt) (fun _ i _ => n - (intOf i).toNat)
  case atStart => exact ⟨0, T0, [], none, 0, Nat.zero_le _, rfl, rfl, Nat.le_refl _, HF0.out, HST.out⟩
  case round =>
    clear HF0 HST
    obtain ⟨j, tt, acc, ao, cap, hj, rfl, rfl, hal, hfar, hst⟩ := hrel
    by_cases hlt : j < n
    · have hF2 : Far cs0 T0 acc (P.drop 0 ++ codesN k (n - j - 1)) tt := by
        have e : codesN k (n - j) = permL k ++ codesN k (n - j - 1) := by rw [show n - j = (n - j - 1) + 1 by omega, codes_cons, Nat.add_sub_cancel]
        rw [e, ← HPE.out] at hfar
        exact hfar
      have HF2 := Lib.hid hF2
      have HS2 := Lib.hid hst
      clear hfar hF2 hst
      go_wp2
      go_loopw [8, 18] (fun v i wr => ∃ (q : Nat) (tt : ByteArray) (acc : List Prim) (ao : Option Addr) (cap : Nat), q ≤ m ∧ i = .int .i64 q ∧ v = .slice ao acc.length cap ∧ acc.length ≤ 2 * j + q ∧ Far cs0 T0 acc (P.drop q ++ codesN k (n - j - 1)) tt ∧ ISt 9 48 W0 w wr gr (.slice ao acc.length cap) acc tt) (fun _ i _ => m - (intOf i).toNat)
      case atStart => exact ⟨0, tt, acc, ao, cap, Nat.zero_le _, rfl, rfl, by omega, HF2.out, HS2.out⟩
      case round =>
        clear HF2 HS2
        obtain ⟨q, tt, acc, ao, cap, hq, rfl, rfl, hal, hfar, hst⟩ := hrel
        by_cases hqm : q < m
        · have cP := HPC.out _ hst.2.1 q hqm
          have hdp : P.drop q = P.getD q 0 :: P.drop (q + 1) := drop_at (by rw [← HMP.out]; exact hqm)
          rw [hdp, List.cons_append] at hfar
          obtain ⟨c, hc⟩ : ∃ c, c = P.getD q 0 := ⟨_, rfl⟩
          rw [← hc] at hfar cP
          have hTb : Tbs wr := HT.out.below hst.1 (Nat.le_refl _)
          have htt := hst.2.2.2.2.2
          have hgr := hst.2.2.1
          by_cases hgd : (decQ tt).e = 0 ∧ (decQ tt).c = c
          · obtain ⟨he, hce⟩ := hgd
            have NX := Lib.hid (nextc_good gr tt c wr htt hgr hTb.tab hTb.lay he hce)
            obtain ⟨nn, hnn, hnt, hrs⟩ := decQ_ok tt he
            have hF3 := far_next hfar he hce
            rw [hce] at hF3
            have hrt : (restQ tt).size ≤ maxLen - 2 := Nat.le_trans (restQ_size tt) htt
            unfold NextPost at NX
            obtain ⟨raw, hraw⟩ : ∃ v, v = (decQ tt).raw := ⟨_, rfl⟩
            obtain ⟨t', ht'⟩ : ∃ v, v = restQ tt := ⟨_, rfl⟩
            rw [← hraw, ← ht'] at NX hF3
            rw [← hraw] at hrs
            rw [← ht'] at hrt
            have HF3 := Lib.hid hF3
            have HS := Lib.hid hst
            clear hF3 hraw ht' he hce hfar hst hdp hc hTb htt hgr hnn hnt
            go_upto_region 8 with (go_at_call 38; (with_reducible refine (NX.out).mono ?_); rintro e wn ⟨rfl, hgn, hrn⟩)
            have hs2 := HS.out.read hg0 hgw hgn hrn hrt
            have hs3 := hs2.alloc (.cells #[.int .i64 c, .string raw] 48)
            have hxx := two_new wn (.int .i64 c) (.string raw) 48
            obtain ⟨wa, hwa⟩ : ∃ v, v = wn.alloc (.cells #[.int .i64 c, .string raw] 48) := ⟨_, rfl⟩
            rw [← hwa] at hs3 hxx
            rw [← hwa]
            obtain ⟨bx, hbx⟩ : ∃ v, v = wn.heap.size := ⟨_, rfl⟩
            rw [← hbx] at hxx
            rw [← hbx]
            clear hwa hbx hs2 hgn hrn
            obtain ⟨x1, x2⟩ := hxx
            have hwsz : w.heap.size ≤ wa.heap.size := hs3.2.1.size
            have HS3 := Lib.hid hs3
            have hown3 := hs3.2.2.2.1
            clear hs3
            go_wp2_with (at_builtin; refine wpList_append_own _ rfl (.tmp 31) (.tmp 33) 26 rfl w.heap.size 48 ip _ 2 24 hug hip hz0 hz1 hz2 rfl (by decide) _ acc.length (primCells acc) rfl (hown3.alloc _) ⟨wa.heap.size, 0, none⟩ 1 1 [.int .i64 c, .string raw] rfl rfl (cells_new _ _ _ _ rfl) (by intro u hu; simp at hu; rcases hu with rfl | rfl <;> rfl) (by unfold maxLen; omega) (by omega) (by simp; omega) ?_; intro v' w2 hown hgrow _; obtain ⟨g', cap', rfl, -, -⟩ := hown.form (Nat.succ_pos _); have hpush := Lib.hid (HS3.out.push hgw h0w hown (gtrans (galloc wa _ _) hgrow) (by unfold maxLen; omega)); clear hown hgrow)
            go_roundw
            case rel => exact ⟨q + 1, t', acc ++ [(c, raw)], some ⟨g', 0, none⟩, cap', by omega, by go_num, by rw [List.length_append]; rfl, by rw [List.length_append]; show acc.length + 1 ≤ _; omega, HF3.out, by rw [List.length_append]; exact hpush.out⟩
            case measure => simp [intOf]; omega
          · have NX := Lib.hid (nextc_bad gr tt c wr htt hgr hTb.tab hTb.lay hgd)
            have hge : gE cs0 T0 = (if (decQ tt).e ≠ 0 then (decQ tt).e else 7) ∧ (if (decQ tt).e ≠ 0 then (decQ tt).e else 7) ≠ 0 := by
              by_cases he : (decQ tt).e = 0
              · rw [if_neg (fun h => h he)]
                exact ⟨far_code hfar he (fun h => hgd ⟨he, h⟩), by decide⟩
              · rw [if_pos he]
                exact ⟨far_err hfar he, he⟩
            unfold NextPost at NX
            obtain ⟨ee, hee⟩ : ∃ v, v = (if (decQ tt).e ≠ 0 then (decQ tt).e else 7) := ⟨_, rfl⟩
            rw [← hee] at NX hge
            have HGE := Lib.hid hge
            have hen : (ee != 0) = true := by simpa using hge.2
            have HG2 := Lib.hid hst.2.1
            clear hge hee hfar hst hdp hc hTb htt hgr hgd
            go_upto_region 8 with (go_at_call 38; (with_reducible refine (NX.out).mono ?_); rintro e wn ⟨rfl, hgn, hrn⟩)
            go_wp2
            go_ret2
            exact ⟨gtrans (gtrans HG2.out hgn) (galloc _ _ _), none, 0, 0, by rw [HGE.out.1]; rfl, fun h => absurd (HGE.out.1 ▸ h) HGE.out.2⟩
        · obtain rfl : q = m := by omega
          have hdz : P.drop q = [] := by rw [HMP.out]; exact List.drop_length
          rw [hdz, List.nil_append, show n - j - 1 = n - (j + 1) by omega] at hfar
          have HF := Lib.hid hfar
          have HS := Lib.hid hst
          clear hdz hfar hst
          go_wp2
          go_roundw
          case rel => exact ⟨j + 1, tt, acc, ao, cap, by omega, by go_num, rfl, by omega, HF.out, HS.out⟩
          case measure => simp [intOf]; omega
    · obtain rfl : j = n := by omega
      rw [Nat.sub_self] at hfar
      obtain ⟨g1, g2, g3⟩ := far_end (show Far _ _ _ [] _ from hfar)
      have HP : Hid (ItemsPost gr cs0 T0 w (.returned (.tuple #[.slice ao acc.length cap, .int .i64 0])) wr) :=
        ⟨hst.2.1, _, _, _, by rw [g1], fun _ => ⟨by rw [g3]; exact hst.2.2.1, by rw [g2]; exact prims_of_owns hst.2.2.2.1 hst.2.2.2.2.1, fun b e => (hst.2.2.2.1.lt b e).1⟩⟩
      clear hfar hst g1 g2 g3
      go_wp2
      go_ret2
      exact HP.out

end Go.Proofs.YtdmgmfdmakheiaaDoor
