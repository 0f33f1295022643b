/- Contracts of the program's own small functions of stream: shapeOf, Clone at []int, Permitted, Mark. The table of shapes must read as the program lays it. -/
import Derived.Test.YtdmgmfdmakheiaaDoorSref
import Derived.Test.YtdmgmfdmakheiaaDoorQmap
import Derived.Test.YtdmgmfdmakheiaaDoorBasg
namespace Go.Proofs.YtdmgmfdmakheiaaDoor
open Go.ChangeShapes Go.WideShapes Go.ChangeAt Go.RowKit
set_option linter.unusedVariables false
set_option linter.unusedSimpArgs false

/-- The letter of a kind, as characters. -/
def letL (k : Nat) : List UInt8 := if k = 1 then [65] else if k = 2 then [66] else if k = 3 then [67] else if k = 4 then [71] else []

/-- The table of shapes reads as it is laid: v are its patterns' slices. -/
def ShpV (w : World) (v : Nat → Value) : Prop :=
  1 < w.heap.size ∧ v 0 = .slice none 0 0 ∧ ∀ i, i < 5 → w.cell? ⟨1, i * 2, none⟩ = some (.string ⟨(letL i).toArray⟩) ∧ w.cell? ⟨1, i * 2 + 1, none⟩ = some (v i) ∧ IntsAt w.heap.size w (v i) (permL i)
def Shp (w : World) : Prop := ∃ v, ShpV w v
theorem ShpV.go {w w' : World} {v : Nat → Value} (h : ShpV w v) (hb : Below w.heap.size w w') : ShpV w' v := by
  obtain ⟨h1, h2, h3⟩ := h
  refine ⟨Nat.lt_of_lt_of_le h1 hb.size, h2, fun i hi => ?_⟩
  obtain ⟨a, b, c⟩ := h3 i hi
  exact ⟨(hb.cell (p := ⟨1, i * 2, none⟩) h1).trans a, (hb.cell (p := ⟨1, i * 2 + 1, none⟩) h1).trans b, c.same hb.block hb.size⟩
theorem Shp.go {w w' : World} (h : Shp w) (hb : Below w.heap.size w w') : Shp w' := by
  obtain ⟨v, hv⟩ := h
  exact ⟨v, hv.go hb⟩
theorem Shp.below {w w' : World} {B : Nat} (h : Shp w) (hb : Below B w w') (hB : w.heap.size ≤ B) : Shp w' := by
  obtain ⟨v, h1, h2, h3⟩ := h
  refine ⟨v, Nat.lt_of_lt_of_le h1 hb.size, h2, fun i hi => ?_⟩
  obtain ⟨a, b, c⟩ := h3 i hi
  exact ⟨(hb.cell (p := ⟨1, i * 2, none⟩) (by dsimp only; omega)).trans a, (hb.cell (p := ⟨1, i * 2 + 1, none⟩) (by dsimp only; omega)).trans b, c.same (fun j hj => hb.block j (by omega)) hb.size⟩

/-- What shapeOf returns. -/
def shpR (v : Nat → Value) (k : Int) : Value :=
  .tuple #[.agg #[.string ⟨(if 0 ≤ k ∧ k < 5 then letL k.toNat else []).toArray⟩, if 0 ≤ k ∧ k < 5 then v k.toNat else .slice none 0 0], .bool (decide (1 ≤ k ∧ k ≤ 4))]
set_option maxRecDepth 100000 in
theorem shape_in (n : Nat) (v : Nat → Value) (w : World) (hn : n < 5) (hS : ShpV w v) : Calls Tryd.prog 46 #[.int .i64 (n : Int)] w fun e w' => e = .returned (.tuple #[.agg #[.string ⟨(letL n).toArray⟩, v n], .bool (decide (1 ≤ (n : Int) ∧ (n : Int) ≤ 4))]) ∧ Below w.heap.size w w' := by
  obtain ⟨hlt, -, h3⟩ := hS
  obtain ⟨c0, c1, hI⟩ := h3 n hn
  obtain ⟨ao, cap, hv, -, -⟩ := hI
  obtain ⟨cs, hcs⟩ : ∃ cs : ByteArray, cs = ⟨(letL n).toArray⟩ := ⟨_, rfl⟩
  obtain ⟨m, hm⟩ : ∃ m, m = (permL (n : Int)).length := ⟨_, rfl⟩
  rw [hv, ← hm] at c1
  rw [hv, ← hm, ← hcs]
  rw [← hcs] at c0
  have hq : (cs.toList == (⟨#[]⟩ : ByteArray).toList) = !decide (1 ≤ (n : Int) ∧ (n : Int) ≤ 4) := by
    by_cases h0 : n = 0
    · subst h0; rw [show decide (1 ≤ ((0 : Nat) : Int) ∧ ((0 : Nat) : Int) ≤ 4) = false by decide]; exact same_str (by rw [hcs]; rfl)
    · rw [show decide (1 ≤ (n : Int) ∧ (n : Int) ≤ 4) = true from decide_eq_true (by omega)]
      refine other_str ?_
      rw [hcs]
      intro e
      have := congrArg ByteArray.size e
      have h1 : (letL n).length = 0 := this
      obtain rfl | rfl | rfl | rfl : n = 1 ∨ n = 2 ∨ n = 3 ∨ n = 4 := by omega
      all_goals cases h1
  obtain ⟨x, hx⟩ : ∃ x, x = decide (1 ≤ (n : Int) ∧ (n : Int) ≤ 4) := ⟨_, rfl⟩
  rw [← hx] at hq
  rw [← hx]
  clear hcs hm hx h3 hv
  go_enter Tryd.func46, Tryd.ntmps46
  have hq1 : cs.toList.isEmpty = !x := by
    rw [← hq]
    cases h : cs.toList with
    | nil => simp
    | cons a l => simp
  go_wp2
  go_region
  go_wp2
  refine bodyPost_ret (v := .tuple #[.agg #[.string cs, .slice ao m cap], .bool x]) ?_ ?_ ?_
  rotate_left
  · rfl
  · exact ⟨rfl, (((Below.refl _ _).alloc (Nat.le_refl _) _).alloc (by simp) _).drew⟩
  · simp [results, Tryd.results46, go_sem, hq1]
set_option maxRecDepth 100000 in
theorem shape_out (k : Int) (w : World) (h : k < 0 ∨ 5 ≤ k) : Calls Tryd.prog 46 #[.int .i64 k] w fun e w' => e = .returned (.tuple #[.agg #[.string ⟨#[]⟩, .slice none 0 0], .bool false]) ∧ Below w.heap.size w w' := by
  rcases h with h' | h'
  · go_enter Tryd.func46, Tryd.ntmps46
    go_wp2
    refine bodyPost_ret (v := .tuple #[.agg #[.string ⟨#[]⟩, .slice none 0 0], .bool false]) ?_ ?_ ?_
    rotate_left
    · rfl
    · exact ⟨rfl, (Below.refl _ _).alloc (Nat.le_refl _) _⟩
    · simp [results, Tryd.results46, go_sem]
  · have h1 : ¬ k < 0 := by omega
    go_enter Tryd.func46, Tryd.ntmps46
    go_wp2
    refine bodyPost_ret (v := .tuple #[.agg #[.string ⟨#[]⟩, .slice none 0 0], .bool false]) ?_ ?_ ?_
    rotate_left
    · rfl
    · exact ⟨rfl, (Below.refl _ _).alloc (Nat.le_refl _) _⟩
    · simp [results, Tryd.results46, go_sem]
/-- shapeOf, whatever the kind: the letter, the pattern as the table has it (p), whether there is such a kind. -/
theorem shape_any (k : Int) (w : World) (hS : Shp w) : Calls Tryd.prog 46 #[.int .i64 k] w fun e w' => ∃ cs ao m cap, e = .returned (.tuple #[.agg #[.string cs, .slice ao m cap], .bool (decide (1 ≤ k ∧ k ≤ 4))]) ∧ Below w.heap.size w w' ∧ m = (permL k).length ∧ cs = ⟨(letL k.toNat).toArray⟩ ∧ (m = 0 → ao = none ∧ cap = 0) ∧ IntsAt w.heap.size w (.slice ao m cap) (permL k) := by
  by_cases h : 0 ≤ k ∧ k < 5
  · obtain ⟨n, rfl⟩ : ∃ n : Nat, k = (n : Int) := ⟨k.toNat, by omega⟩
    obtain ⟨v, hv⟩ := hS
    refine (shape_in n v w (by omega) hv).mono ?_
    rintro e w' ⟨rfl, hb⟩
    obtain ⟨-, h0, h3⟩ := hv
    obtain ⟨-, -, hI⟩ := h3 n (by omega)
    have hI' := hI
    obtain ⟨ao, cap, hv, -, -⟩ := hI
    rw [hv] at hI'
    refine ⟨_, ao, _, cap, by rw [hv]; rfl, hb, rfl, rfl, fun hm => ?_, hI'⟩
    obtain rfl : n = 0 := by
      have := (permL_none (n : Int)).1 (List.length_eq_zero_iff.1 hm)
      omega
    rw [h0] at hv
    cases hv
    exact ⟨rfl, rfl⟩
  · refine (shape_out k w (by omega)).mono ?_
    rintro e w' ⟨rfl, hb⟩
    have hp : permL k = [] := (permL_none k).2 (by omega)
    refine ⟨_, none, 0, 0, by rw [decide_eq_false (by omega)], hb, by rw [hp]; rfl, ?_, fun _ => ⟨rfl, rfl⟩, ?_⟩
    · rw [show letL k.toNat = [] by unfold letL; rw [if_neg (by omega), if_neg (by omega), if_neg (by omega), if_neg (by omega)]]
    · rw [hp]; exact ⟨none, 0, rfl, Nat.le_refl _, fun j hj => absurd hj (Nat.not_lt_zero _)⟩

/-- A slice of the numbers l, made by the call. -/
def IntsPost (l : List Int) (w : World) (e : Ending) (w' : World) : Prop := ∃ v, e = .returned v ∧ Below w.heap.size w w' ∧ IntsAt w'.heap.size w' v l
theorem ints_of_owns {w : World} {base n : Nat} {T : TypeId} {v : Value} {l : List Int} (h : w.ownsRow base T 1 v n (l.map fun z => Value.int .i64 z)) : IntsAt w.heap.size w v l := by
  have hn : n = l.length := by have := h.1; rw [List.length_map] at this; omega
  subst hn
  rcases h.2 with ⟨rfl, h0⟩ | ⟨g, cap, cur, rfl, hb, hg, hnc, hcm, hcs, hcu⟩
  · exact ⟨none, 0, by rw [h0], by omega, fun j hj => absurd hj (by omega)⟩
  · refine ⟨_, cap, rfl, hnc, fun j hj => ?_⟩
    have hlt : g < w.heap.size := by
      rcases Nat.lt_or_ge g w.heap.size with h' | h'
      · exact h'
      · rw [Array.getElem?_eq_none h'] at hg; cases hg
    refine ⟨g, 0, rfl, hlt, ?_⟩
    have e : (l.map fun z => Value.int .i64 z)[j]? = some (.int .i64 (l.getD j 0)) := by simp [List.getD, List.getElem?_eq_getElem hj]
    have := h.cells (g := g) rfl _ _ e
    rw [Addr.add_lit] at this; exact this

theorem infoi : ∃ i, Tryd.prog.info? 3 = some i ∧ i.zero = some (.int .i64 0) ∧ i.size = 1 ∧ i.bytes = 8 := by
  have h : (Tryd.prog.info? 3).map (fun i => (i.zero, i.size, i.bytes)) = some (some (.int .i64 0), 1, 8) := by kernel_rfl
  cases e : Tryd.prog.info? 3 with
  | none => rw [e] at h; cases h
  | some i =>
    rw [e] at h
    simp only [Option.map_some, Option.some.injEq, Prod.mk.injEq] at h
    exact ⟨i, rfl, h.1, h.2.1, h.2.2⟩
set_option maxHeartbeats 800000 in
set_option maxRecDepth 100000 in
theorem clone_any (ao : Option Addr) (l : List Int) (m cap : Nat) (w : World) (hm : m = l.length) (h : IntsAt w.heap.size w (.slice ao m cap) l) (hl : m ≤ 2) (h0 : m = 0 → ao = none ∧ cap = 0) : Calls Tryd.prog 49 #[.slice ao m cap] w (IntsPost l w) := by
  by_cases hz : m = 0
  · obtain ⟨rfl, rfl⟩ := h0 hz
    obtain rfl : l = [] := List.length_eq_zero_iff.1 (by omega)
    subst hz
    clear h hm h0
    have he : ∀ w : World, (binOp .eql 22 (.slice none 0 0) (.slice none 0 0)).run Tryd.prog w = .ok (.bool true) w := fun _ => rfl
    go_enter Tryd.func49, Tryd.ntmps49
    go_wp2
    go_ret
    exact ⟨_, rfl, Below.refl _ _, none, 0, rfl, Nat.le_refl _, fun j hj => absurd hj (Nat.not_lt_zero _)⟩
  · obtain ⟨i0, hi, hz0, hz1, hz2⟩ := infoi
    subst hm
    obtain ⟨ap, cp, e, hc, hr⟩ := h
    cases e
    obtain ⟨b, off, rfl, hb, -⟩ := hr 0 (by omega)
    have hnews : Hid (∀ j u, (l.map fun z => Value.int .i64 z)[j]? = some u → (w.alloc (.cells #[] 3)).cell? ((⟨b, off, none⟩ : Addr).add j) = some u) := by
      intro j u hu
      have hj : j < l.length := by
        rcases Nat.lt_or_ge j l.length with h' | h'
        · exact h'
        · rw [List.getElem?_eq_none (by rw [List.length_map]; exact h')] at hu; cases hu
      obtain ⟨b', off', e, hb', hc'⟩ := hr j hj
      cases e
      rw [Addr.add_lit, cell_same (w := w) (Below.heap_alloc w _ b hb), hc']
      rw [List.getElem?_map, List.getElem?_eq_getElem hj] at hu
      simp only [Option.map_some, Option.some.injEq] at hu
      rw [← hu]
      simp [List.getD, List.getElem?_eq_getElem hj]
    have hone : Hid (∀ u ∈ (l.map fun z => Value.int .i64 z), u.oneCell' = true) := by
      intro u hu
      obtain ⟨z, -, rfl⟩ := List.mem_map.1 hu
      rfl
    obtain ⟨m, hm⟩ : ∃ m, m = l.length := ⟨_, rfl⟩
    have hlen := Lib.hid (show (l.map fun z => Value.int .i64 z).length = m * 1 by rw [List.length_map, hm]; omega)
    rw [← hm] at hl hz hc
    rw [← hm]
    clear hr hm h0
    have he : ∀ w : World, (binOp .eql 22 (.slice (some ⟨b, off, none⟩) m cap) (.slice none 0 0)).run Tryd.prog w = .ok (.bool false) w := fun _ => rfl
    go_enter Tryd.func49, Tryd.ntmps49
    go_wp2_with (at_builtin; refine wpList_append_own _ rfl (.tmp 5) (.tmp 6) 22 rfl w.heap.size 3 i0 (.int .i64 0) 1 8 Tryd.underlying22 hi hz0 hz1 hz2 rfl (by decide) _ 0 _ rfl (World.ownsRow_lit w #[] 0 (Nat.le_refl _) (Nat.zero_le _) rfl) ⟨b, off, none⟩ m cap (l.map fun z => Value.int .i64 z) rfl hlen.out hnews.out hone.out (by unfold maxLen; omega) (by omega) (by simp) ?_; intro v' w2 hown hgrow _)
    go_ret
    have hgb : Below w.heap.size w w2 := ((Below.refl w.heap.size w).alloc (o := .cells #[] 3) (Nat.le_refl _)).grown hgrow (by simp) (fun k e => by cases e; exact Nat.le_refl _)
    refine ⟨_, rfl, hgb, ?_⟩
    rw [show #[].toList ++ (l.map fun z => Value.int .i64 z) = (l.map fun z => Value.int .i64 z) from rfl] at hown
    exact ints_of_owns hown

set_option maxHeartbeats 800000 in
set_option maxRecDepth 100000 in
theorem perm_any (k : Int) (w : World) (hS : Shp w) : Calls Tryd.prog 25 #[.int .i64 k] w (PermPost k w) := by
  have hl := permL_len k
  have SH : Hid (Calls Tryd.prog 46 #[.int .i64 k] w fun e w' => ∃ cs ao m cap, e = .returned (.tuple #[.agg #[.string cs, .slice ao m cap], .bool (decide (1 ≤ k ∧ k ≤ 4))]) ∧ Below w.heap.size w w' ∧ m = (permL k).length ∧ (m = 0 → ao = none ∧ cap = 0) ∧ IntsAt w.heap.size w (.slice ao m cap) (permL k)) :=
    (shape_any k w hS).mono fun e w' ⟨cs, ao, m, cap, h1, h2, h3, h4, h5, h6⟩ => ⟨cs, ao, m, cap, h1, h2, h3, h5, h6⟩
  clear hS
  obtain ⟨P, hP⟩ : ∃ P, P = permL k := ⟨_, rfl⟩
  have HPP := Lib.hid (show ∀ e w', IntsPost P w e w' → PermPost k w e w' by intro e w' h; rw [hP] at h; exact h)
  rw [← hP] at SH hl
  obtain ⟨x, hx⟩ : ∃ x, x = decide (1 ≤ k ∧ k ≤ 4) := ⟨_, rfl⟩
  rw [← hx] at SH
  clear hx hP
  go_enter Tryd.func25, Tryd.ntmps25
  go_wp2_with (first
    | (go_at_call 46; (with_reducible refine (SH.out).mono ?_); rintro e w1 ⟨cs, ao, m, cap, rfl, hb1, hm, hz, hI⟩; have HM := Lib.hid hm; have HZ := Lib.hid hz; have hI1 := hI.below hb1; have hr := two_new w1 (.string cs) (.slice ao m cap) 82; have hb2 := hb1.alloc (o := .cells #[.string cs, .slice ao m cap] 82) hb1.size; have CL := Lib.hid (clone_any ao P m cap (w1.alloc (.cells #[.string cs, .slice ao m cap] 82)) hm (hI1.same (w' := w1.alloc (.cells #[.string cs, .slice ao m cap] 82)) (fun j hj => Below.heap_alloc w1 _ j (Nat.lt_of_lt_of_le hj hb1.size)) hb2.size) (by omega) hz); clear hm hz hI hI1)
    | (go_at_call 49; (with_reducible refine (CL.out).mono ?_); rintro e w3 ⟨v, rfl, hb3, hI3⟩))
  go_ret
  exact HPP.out _ _ ⟨v, rfl, hb2.trans (hb3.mono hb2.size), hI3⟩

theorem mark_cats (k n : Int) (h1 : 1 ≤ k ∧ k ≤ 4) : ({ data := #[45] } : ByteArray) ++ (⟨(letL k.toNat).toArray⟩ : ByteArray) ++ strL (digsL n.toNat 2) = strL (markL k n) := by
  apply ByteArray.ext
  apply Array.toList_inj.1
  rw [ByteArray.data_append, Array.toList_append, ByteArray.data_append, Array.toList_append]
  obtain rfl | rfl | rfl | rfl : k = 1 ∨ k = 2 ∨ k = 3 ∨ k = 4 := by omega
  all_goals rfl
theorem num_two (n : Int) : numS n 2 = (if n < 0 ∨ 4095 < n then ⟨#[]⟩ else strL (digsL n.toNat 2)) ∧ numE n 2 = (if n < 0 ∨ 4095 < n then 2 else 0) := by
  unfold numS numE
  rw [show (64 : Int) ^ (2 : Int).toNat = 4096 from rfl]
  by_cases h : n < 0 ∨ 4095 < n
  · exact ⟨by rw [if_pos (by omega), if_pos h], by rw [if_pos (by omega), if_pos h]⟩
  · exact ⟨by rw [if_neg (by omega), if_neg h]; rfl, by rw [if_neg (by omega), if_neg h]⟩
theorem let_size (k : Nat) : (⟨(letL k).toArray⟩ : ByteArray).size ≤ 1 := by
  show (letL k).length ≤ 1
  unfold letL
  (repeat' split) <;> decide
set_option maxHeartbeats 800000 in
set_option maxRecDepth 100000 in
theorem mark_any (k n : Int) (w : World) (hn : n ≤ 9223372036854775807) (hS : Shp w) : Calls Tryd.prog 23 #[.int .i64 k, .int .i64 n] w fun e w' => e = .returned (.tuple #[.string (markS k n), .int .i64 (markE k n)]) ∧ Below w.heap.size w w' := by
  have SH0 : Calls Tryd.prog 46 #[.int .i64 k] w fun e w' => ∃ ao m cap, e = .returned (.tuple #[.agg #[.string ⟨(letL k.toNat).toArray⟩, .slice ao m cap], .bool (decide (1 ≤ k ∧ k ≤ 4))]) ∧ Below w.heap.size w w' :=
    (shape_any k w hS).mono fun e w' ⟨cs, ao, m, cap, h1, h2, h3, h4, h5, h6⟩ => ⟨ao, m, cap, by rw [h1, h4], h2⟩
  have hls := let_size k.toNat
  obtain ⟨L, hL⟩ : ∃ L : ByteArray, L = ⟨(letL k.toNat).toArray⟩ := ⟨_, rfl⟩
  rw [← hL] at SH0 hls
  have SH := Lib.hid SH0
  have NU0 := fun wx : World => number_full n 2 wx hn
  rw [(num_two n).1, (num_two n).2] at NU0
  clear hS SH0
  by_cases hk : 1 ≤ k ∧ k ≤ 4
  · have hx : decide (1 ≤ k ∧ k ≤ 4) = true := decide_eq_true hk
    rw [hx] at SH
    by_cases hb : n < 0 ∨ 4095 < n
    · rw [if_pos hb, if_pos hb] at NU0
      have NU := Lib.hid NU0
      have hm : markS k n = ⟨#[]⟩ ∧ markE k n = 2 := by
        have : badMark k n := by unfold badMark; omega
        unfold markS markE
        rw [if_pos this, if_pos this]; exact ⟨rfl, rfl⟩
      rw [hm.1, hm.2]
      clear NU0 hL hb hm hx hk
      go_enter Tryd.func23, Tryd.ntmps23
      go_wp2_with (first
        | (go_at_call 46; (with_reducible refine (SH.out).mono ?_); rintro e w1 ⟨ao, m, cap, rfl, hb1⟩; have hb2 := hb1.alloc (o := .cells #[.string L, .slice ao m cap] 82) hb1.size)
        | (go_at_call 47; (with_reducible refine (NU.out _).mono ?_); rintro e w3 ⟨rfl, hb3⟩))
      go_ret2
      exact ⟨rfl, hb2.trans (hb3.mono hb2.size)⟩
    · rw [if_neg hb, if_neg hb] at NU0
      have hc := mark_cats k n hk
      have hm : markS k n = strL (markL k n) ∧ markE k n = 0 := by
        have : ¬ badMark k n := by unfold badMark; omega
        unfold markS markE
        rw [if_neg this, if_neg this]; exact ⟨rfl, rfl⟩
      rw [hm.1, hm.2, ← hc, ← hL]
      have hds : (strL (digsL n.toNat 2)).size = 2 := by show (digsL n.toNat 2).toArray.size = 2; simp [digsL_length]
      obtain ⟨D, hD⟩ : ∃ D, D = strL (digsL n.toNat 2) := ⟨_, rfl⟩
      rw [← hD] at NU0 hds
      rw [← hD]
      have NU := Lib.hid NU0
      have hcat : ({ data := #[45] } : ByteArray).size + L.size ≤ 2 := by show 1 + L.size ≤ 2; omega
      have hcat1 : ¬ 9223372036854775807 < ({ data := #[45] } : ByteArray).size + L.size := by omega
      have hcat2 : ¬ 9223372036854775807 < ({ data := #[45] } : ByteArray).size + L.size + D.size := by omega
      clear NU0 hL hb hm hx hk hc hD
      go_enter Tryd.func23, Tryd.ntmps23
      go_wp2_with (first
        | (go_at_call 46; (with_reducible refine (SH.out).mono ?_); rintro e w1 ⟨ao, m, cap, rfl, hb1⟩; have hb2 := hb1.alloc (o := .cells #[.string L, .slice ao m cap] 82) hb1.size; have k2 := two_new w1 (.string L) (.slice ao m cap) 82; have g2 : w1.heap.size < (w1.alloc (.cells #[.string L, .slice ao m cap] 82)).heap.size := by simp)
        | (go_at_call 47; (with_reducible refine (NU.out _).mono ?_); rintro e w3 ⟨rfl, hb3⟩; have k3 := two_keep hb3 g2 k2))
      go_ret2
      exact ⟨rfl, hb2.trans (hb3.mono hb2.size)⟩
  · have hx : decide (1 ≤ k ∧ k ≤ 4) = false := decide_eq_false hk
    rw [hx] at SH
    have hm : markS k n = ⟨#[]⟩ ∧ markE k n = 2 := by
      have : badMark k n := by unfold badMark; omega
      unfold markS markE
      rw [if_pos this, if_pos this]; exact ⟨rfl, rfl⟩
    rw [hm.1, hm.2]
    clear NU0 hL hm hx hk
    go_enter Tryd.func23, Tryd.ntmps23
    go_wp2_with (first
      | (go_at_call 46; (with_reducible refine (SH.out).mono ?_); rintro e w1 ⟨ao, m, cap, rfl, hb1⟩; have hb2 := hb1.alloc (o := .cells #[.string L, .slice ao m cap] 82) hb1.size))
    go_ret2
    exact ⟨rfl, hb2⟩

end Go.Proofs.YtdmgmfdmakheiaaDoor
