/- The closure of the program's Decode of groups: it reads one primitive of the text that is left, which it shares with its maker. -/
import Derived.Test.YtdmgmfdmakheiaaDoorQdec
import Derived.Test.YtdmgmfdmakheiaaDoorSread
import Derived.Test.YtdmgmfdmakheiaaDoorSgood
namespace Go.Proofs.YtdmgmfdmakheiaaDoor
open Go.ChangeShapes Go.WideShapes Go.ChangeAt Go.RowKit
set_option linter.unusedVariables false
set_option linter.unusedSimpArgs false

theorem one_of1 {w : World} {g : Nat} {u : Value} {T : TypeId} (h : w.heap[g]? = some (.cells #[u] T (0, 0))) : w.cell? ⟨g, 0, none⟩ = some u := by simp [World.cell?, h]
theorem free_one1 {w : World} {g : Nat} {u : Value} {T : TypeId} (h : w.heap[g]? = some (.cells #[u] T (0, 0))) : w.frozen? ⟨g, 0, none⟩ = false := by simp [World.frozen?, h]
theorem one_set1 {w : World} {g : Nat} {u : Value} {T : TypeId} (h : w.heap[g]? = some (.cells #[u] T (0, 0))) (x : Value) : (w.setCell ⟨g, 0, none⟩ x).heap[g]? = some (.cells #[x] T (0, 0)) := by
  have hlt := lt_of_block h
  have h' : w.heap[g] = .cells #[u] T (0, 0) := by simpa [Array.getElem?_eq_getElem hlt] using h
  show (w.heap.modify g _)[g]? = _
  rw [Array.getElem?_eq_getElem (by simpa using hlt), Array.getElem_modify_self, h']
  rfl
theorem grown_set (w : World) (g o : Nat) (v : Value) : w.grownBy (w.setCell ⟨g, o, none⟩ v) (some g) :=
  ⟨rfl, rfl, rfl, by simp [World.setCell], fun i _ hne => heap_setCell_other w ⟨g, o, none⟩ i v (fun e => hne (by rw [e]))⟩
theorem grown_setAt {a b : World} {row : Option Nat} (h : a.grownBy b row) {k : Nat} (hk : a.heap.size ≤ k) (o : Nat) (v : Value) : a.grownBy (b.setCell ⟨k, o, none⟩ v) row :=
  ⟨h.os, h.tape, h.output, by simpa [World.setCell] using h.size, fun i hi hne => (heap_setCell_other b ⟨k, o, none⟩ i v (show i ≠ k by omega)).trans (h.block i hi hne)⟩
theorem grown_of_b {w w' : World} {C : Nat} (hb : Below C w w') (hC : w.heap.size ≤ C) (row : Option Nat) : w.grownBy w' row :=
  ⟨hb.os, hb.tape, hb.output, hb.size, fun i hi _ => hb.block i (by omega)⟩

theorem ydecQ_any (t : ByteArray) (w : World) (hr : t.size ≤ maxLen - 2) (hT : Tab w) (hL : Lay w) : Calls Tryd.prog 39 #[.string t] w fun e w' => e = .returned (.tuple #[.agg #[.int .i64 (decQ t).c, .string (decQ t).raw], .int .i64 (decQ t).n, .int .i64 (decQ t).e]) ∧ Below w.heap.size w w' := by
  rw [← decP_parts]; exact ydecp_any t w hr hT hL
/-- What the closure leaves: the result, and the text that is left. -/
def NextPost (gr : Nat) (c : Int) (raw : ByteArray) (ee : Int) (rest : ByteArray) (w : World) (e : Ending) (w' : World) : Prop :=
  e = .returned (.tuple #[.agg #[.int .i64 c, .string raw], .int .i64 ee]) ∧ w.grownBy w' (some gr) ∧ w'.heap[gr]? = some (.cells #[.string rest] 9 (0, 0))
set_option maxHeartbeats 800000 in
set_option maxRecDepth 100000 in
theorem nextc_err (gr : Nat) (tt : ByteArray) (code : Int) (w : World) (hm : tt.size ≤ maxLen - 2) (hr : w.heap[gr]? = some (.cells #[.string tt] 9 (0, 0))) (hT : Tab w) (hL : Lay w) (he : (decQ tt).e ≠ 0) : Calls Tryd.prog 38 #[.int .i64 code, .pointer (some ⟨gr, 0, none⟩)] w (NextPost gr 0 ⟨#[]⟩ (decQ tt).e tt w) := by
  have hgr := lt_of_block hr
  have b1 := (Below.refl w.heap.size w).alloc (o := .cells #[.int .i64 0, .string ⟨#[]⟩] 48) (Nat.le_refl _)
  have r1 := keepB b1 hgr hr
  have c1 := one_of1 r1
  have p1 : (w.alloc (.cells #[.int .i64 0, .string ⟨#[]⟩] 48)).heap[w.heap.size]? = some (.cells #[.int .i64 0, .string ⟨#[]⟩] 48 (0, 0)) := heap_alloc_new _ _
  have g1 := lt_of_block p1
  have D0 := ydecQ_any tt (w.alloc (.cells #[.int .i64 0, .string ⟨#[]⟩] 48)) hm (hT.go b1) (hL.go b1)
  obtain ⟨dc, hdc⟩ : ∃ v, v = (decQ tt).c := ⟨_, rfl⟩
  obtain ⟨dr, hdr⟩ : ∃ v, v = (decQ tt).raw := ⟨_, rfl⟩
  obtain ⟨dn, hdn⟩ : ∃ v, v = (decQ tt).n := ⟨_, rfl⟩
  obtain ⟨de, hde⟩ : ∃ v, v = (decQ tt).e := ⟨_, rfl⟩
  rw [← hdc, ← hdr, ← hdn, ← hde] at D0
  rw [← hde] at he
  rw [← hde]
  have D := Lib.hid D0
  have hden : (de != 0) = true := by simpa using he
  clear hdc hdr hdn hde D0 hT hL he hr
  go_enter Tryd.func38, Tryd.ntmps38
  go_upto_region 2 with (go_at_call 39; (with_reducible refine D.out.mono ?_); rintro e wn ⟨rfl, hb⟩)
  have hA := (Below.refl wn.heap.size wn).alloc (o := .cells #[.int .i64 dc, .string dr] 48) (Nat.le_refl _)
  have gn : w.heap.size < wn.heap.size := Nat.lt_of_lt_of_le g1 hb.size
  have p2 := keepB hA gn (keepB hb g1 p1)
  have r2 := keepB hA (Nat.lt_trans hgr gn) (keepB hb (Nat.lt_trans hgr g1) r1)
  have hw0 : w.grownBy (wn.alloc (.cells #[.int .i64 dc, .string dr] 48)) (some gr) := gtrans (gtrans (galloc w _ _) (grown_of_b hb (Nat.le_refl _) _)) (galloc _ _ _)
  obtain ⟨wa, hwa⟩ : ∃ wa, wa = wn.alloc (.cells #[.int .i64 dc, .string dr] 48) := ⟨_, rfl⟩
  rw [← hwa] at p2 r2 hw0
  rw [← hwa]
  obtain ⟨f1, f2⟩ := free_two p2
  obtain ⟨z1, z2⟩ := two_of p2
  clear hwa hA
  go_wp2
  refine bodyPost_ret (v := .tuple #[.agg #[.int .i64 0, .string ⟨#[]⟩], .int .i64 de]) ?_ ?_ ?_
  rotate_left
  · rfl
  · refine ⟨rfl, grown_setAt (grown_setAt hw0 (Nat.le_refl _) _ _) (Nat.le_refl _) _ _, ?_⟩
    have hne : gr ≠ w.heap.size := by omega
    exact (heap_setCell_other _ ⟨w.heap.size, 1, none⟩ gr _ hne).trans ((heap_setCell_other _ ⟨w.heap.size, 0, none⟩ gr _ hne).trans r2)
  · have q := two_put p2 (.int .i64 0) (.string ⟨#[]⟩)
    have q0 := q.1
    have q1 := q.2
    simp [results, Tryd.results38, go_sem, q0, q1]
set_option maxHeartbeats 800000 in
set_option maxRecDepth 100000 in
theorem nextc_code (gr : Nat) (tt : ByteArray) (code : Int) (w : World) (hm : tt.size ≤ maxLen - 2) (hr : w.heap[gr]? = some (.cells #[.string tt] 9 (0, 0))) (hT : Tab w) (hL : Lay w) (he : (decQ tt).e = 0) (hc : (decQ tt).c ≠ code) : Calls Tryd.prog 38 #[.int .i64 code, .pointer (some ⟨gr, 0, none⟩)] w (NextPost gr 0 ⟨#[]⟩ 7 tt w) := by
  have hgr := lt_of_block hr
  have b1 := (Below.refl w.heap.size w).alloc (o := .cells #[.int .i64 0, .string ⟨#[]⟩] 48) (Nat.le_refl _)
  have r1 := keepB b1 hgr hr
  have c1 := one_of1 r1
  have p1 : (w.alloc (.cells #[.int .i64 0, .string ⟨#[]⟩] 48)).heap[w.heap.size]? = some (.cells #[.int .i64 0, .string ⟨#[]⟩] 48 (0, 0)) := heap_alloc_new _ _
  have g1 := lt_of_block p1
  have D0 := ydecQ_any tt (w.alloc (.cells #[.int .i64 0, .string ⟨#[]⟩] 48)) hm (hT.go b1) (hL.go b1)
  rw [he] at D0
  obtain ⟨dc, hdc⟩ : ∃ v, v = (decQ tt).c := ⟨_, rfl⟩
  obtain ⟨dr, hdr⟩ : ∃ v, v = (decQ tt).raw := ⟨_, rfl⟩
  obtain ⟨dn, hdn⟩ : ∃ v, v = (decQ tt).n := ⟨_, rfl⟩
  rw [← hdc, ← hdr, ← hdn] at D0
  rw [← hdc] at hc
  have D := Lib.hid D0
  have hcn : (dc != code) = true := by simpa using hc
  clear hdc hdr hdn D0 hT hL he hr hc
  go_enter Tryd.func38, Tryd.ntmps38
  go_upto_region 2 with (go_at_call 39; (with_reducible refine D.out.mono ?_); rintro e wn ⟨rfl, hb⟩)
  have hA := (Below.refl wn.heap.size wn).alloc (o := .cells #[.int .i64 dc, .string dr] 48) (Nat.le_refl _)
  have gn : w.heap.size < wn.heap.size := Nat.lt_of_lt_of_le g1 hb.size
  have p2 := keepB hA gn (keepB hb g1 p1)
  have r2 := keepB hA (Nat.lt_trans hgr gn) (keepB hb (Nat.lt_trans hgr g1) r1)
  have xx := two_new wn (.int .i64 dc) (.string dr) 48
  have hw0 : w.grownBy (wn.alloc (.cells #[.int .i64 dc, .string dr] 48)) (some gr) := gtrans (gtrans (galloc w _ _) (grown_of_b hb (Nat.le_refl _) _)) (galloc _ _ _)
  obtain ⟨wa, hwa⟩ : ∃ wa, wa = wn.alloc (.cells #[.int .i64 dc, .string dr] 48) := ⟨_, rfl⟩
  rw [← hwa] at p2 r2 hw0 xx
  rw [← hwa]
  obtain ⟨f1, f2⟩ := free_two p2
  obtain ⟨z1, z2⟩ := two_of p2
  obtain ⟨x1, x2⟩ := xx
  clear hwa hA
  go_wp2
  refine bodyPost_ret (v := .tuple #[.agg #[.int .i64 0, .string ⟨#[]⟩], .int .i64 7]) ?_ ?_ ?_
  rotate_left
  · rfl
  · refine ⟨rfl, grown_setAt (grown_setAt hw0 (Nat.le_refl _) _ _) (Nat.le_refl _) _ _, ?_⟩
    have hne : gr ≠ w.heap.size := by omega
    exact (heap_setCell_other _ ⟨w.heap.size, 1, none⟩ gr _ hne).trans ((heap_setCell_other _ ⟨w.heap.size, 0, none⟩ gr _ hne).trans r2)
  · have q := two_put p2 (.int .i64 0) (.string ⟨#[]⟩)
    have q0 := q.1
    have q1 := q.2
    simp [results, Tryd.results38, go_sem, q0, q1]
set_option maxHeartbeats 800000 in
set_option maxRecDepth 100000 in
theorem nextc_good (gr : Nat) (tt : ByteArray) (code : Int) (w : World) (hm : tt.size ≤ maxLen - 2) (hr : w.heap[gr]? = some (.cells #[.string tt] 9 (0, 0))) (hT : Tab w) (hL : Lay w) (he : (decQ tt).e = 0) (hc : (decQ tt).c = code) : Calls Tryd.prog 38 #[.int .i64 code, .pointer (some ⟨gr, 0, none⟩)] w (NextPost gr code (decQ tt).raw 0 (restQ tt) w) := by
  have hgr := lt_of_block hr
  have b1 := (Below.refl w.heap.size w).alloc (o := .cells #[.int .i64 0, .string ⟨#[]⟩] 48) (Nat.le_refl _)
  have r1 := keepB b1 hgr hr
  have c1 := one_of1 r1
  have p1 : (w.alloc (.cells #[.int .i64 0, .string ⟨#[]⟩] 48)).heap[w.heap.size]? = some (.cells #[.int .i64 0, .string ⟨#[]⟩] 48 (0, 0)) := heap_alloc_new _ _
  have g1 := lt_of_block p1
  have D0 := ydecQ_any tt (w.alloc (.cells #[.int .i64 0, .string ⟨#[]⟩] 48)) hm (hT.go b1) (hL.go b1)
  obtain ⟨nn, hnn, hnt, -⟩ := decQ_ok tt he
  have hrq : restQ tt = tt.extract nn tt.size := by unfold restQ; rw [hnn]; rfl
  rw [he, hnn] at D0
  obtain ⟨dc, hdc⟩ : ∃ v, v = (decQ tt).c := ⟨_, rfl⟩
  obtain ⟨dr, hdr⟩ : ∃ v, v = (decQ tt).raw := ⟨_, rfl⟩
  rw [← hdc, ← hdr] at D0
  rw [← hdc] at hc
  rw [← hdr, hrq]
  subst hc
  have D := Lib.hid D0
  have hcn : (dc != dc) = false := by simp
  have hn0 : (0 : Int) ≤ (nn : Int) := by omega
  have hn1 : (nn : Int) ≤ (tt.size : Int) := by omega
  clear hdc hdr D0 hT hL he hr hnn hrq
  go_enter Tryd.func38, Tryd.ntmps38
  go_upto_region 2 with (go_at_call 39; (with_reducible refine D.out.mono ?_); rintro e wn ⟨rfl, hb⟩)
  have hA := (Below.refl wn.heap.size wn).alloc (o := .cells #[.int .i64 dc, .string dr] 48) (Nat.le_refl _)
  have gn : w.heap.size < wn.heap.size := Nat.lt_of_lt_of_le g1 hb.size
  have p2 := keepB hA gn (keepB hb g1 p1)
  have r2 := keepB hA (Nat.lt_trans hgr gn) (keepB hb (Nat.lt_trans hgr g1) r1)
  have x0 : (wn.alloc (.cells #[.int .i64 dc, .string dr] 48)).heap[wn.heap.size]? = some (.cells #[.int .i64 dc, .string dr] 48 (0, 0)) := heap_alloc_new _ _
  have hw0 : w.grownBy (wn.alloc (.cells #[.int .i64 dc, .string dr] 48)) (some gr) := gtrans (gtrans (galloc w _ _) (grown_of_b hb (Nat.le_refl _) _)) (galloc _ _ _)
  obtain ⟨wa, hwa⟩ : ∃ wa, wa = wn.alloc (.cells #[.int .i64 dc, .string dr] 48) := ⟨_, rfl⟩
  rw [← hwa] at p2 r2 hw0 x0
  rw [← hwa]
  obtain ⟨bn, hbn⟩ : ∃ bn, bn = wn.heap.size := ⟨_, rfl⟩
  rw [← hbn] at x0 gn
  rw [← hbn]
  clear hwa hA hbn
  have hne : w.heap.size ≠ gr := by omega
  have hne2 : bn ≠ gr := by omega
  have p3 := (heap_setCell_other wa ⟨gr, 0, none⟩ w.heap.size (.string (tt.extract nn tt.size)) hne).trans p2
  have x3 := (heap_setCell_other wa ⟨gr, 0, none⟩ bn (.string (tt.extract nn tt.size)) hne2).trans x0
  obtain ⟨x1, x2⟩ := two_of x0
  obtain ⟨y1, y2⟩ := two_of x3
  have c2 := one_of1 r2
  have f0 := free_one1 r2
  obtain ⟨f1, f2⟩ := free_two p3
  obtain ⟨z1, z2⟩ := two_of p3
  go_wp2
  refine bodyPost_ret (v := .tuple #[.agg #[.int .i64 dc, .string dr], .int .i64 0]) ?_ ?_ ?_
  rotate_left
  · rfl
  · refine ⟨rfl, grown_setAt (grown_setAt (gtrans hw0 (grown_set _ _ _ _)) (Nat.le_refl _) _ _) (Nat.le_refl _) _ _, ?_⟩
    have hne' : gr ≠ w.heap.size := by omega
    exact (heap_setCell_other _ ⟨w.heap.size, 1, none⟩ gr _ hne').trans ((heap_setCell_other _ ⟨w.heap.size, 0, none⟩ gr _ hne').trans (one_set1 r2 _))
  · have q := two_put p3 (.int .i64 dc) (.string dr)
    have q0 := q.1
    have q1 := q.2
    simp [results, Tryd.results38, go_sem, q0, q1]

end Go.Proofs.YtdmgmfdmakheiaaDoor
