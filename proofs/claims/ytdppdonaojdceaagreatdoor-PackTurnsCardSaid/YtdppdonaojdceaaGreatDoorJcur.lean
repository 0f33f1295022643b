/- The parser's cursor: skip, take, until. -/
import Derived.Test.YtdppdonaojdceaaGreatDoorJrw
import Derived.Test.YtdppdonaojdceaaGreatDoorJwrd
namespace Go.Proofs.YtdppdonaojdceaaGreatDoor
open Go Go.ChangeShapes Go.WideShapes Go.ChangeAt Go.RowKit
set_option linter.unusedVariables false
set_option linter.unusedSimpArgs false

/-- Bytes as a string. -/
def bA (l : List UInt8) : ByteArray := ⟨l.toArray⟩
theorem bA_data (l : List UInt8) : (bA l).data.toList = l := by simp [bA]
theorem bA_size (l : List UInt8) : (bA l).size = l.length := by simp [bA, ByteArray.size]
theorem bA_of (s : ByteArray) : bA s.data.toList = s := by cases s; simp [bA]
theorem bA_extract (l : List UInt8) (a b : Nat) : (bA l).extract a b = bA ((l.drop a).take (b - a)) := by
 apply ByteArray.ext
 apply Array.toList_inj.1
 rw [ByteArray.data_extract, Array.toList_extract]
 simp [bA, List.extract]
theorem bA_head (l : List UInt8) (n : Nat) : (bA l).extract 0 n = bA (l.take n) := by rw [bA_extract]; simp
theorem bA_tail (l : List UInt8) (n : Nat) : (bA l).extract n (bA l).size = bA (l.drop n) := by
 rw [bA_extract, bA_size, List.take_of_length_le (by simp)]
/-- What lies before the first of some bytes. -/
def upTo (ends : List UInt8) (r : List UInt8) : List UInt8 := r.takeWhile fun b => !ends.contains b
def from' (ends : List UInt8) (r : List UInt8) : List UInt8 := r.dropWhile fun b => !ends.contains b
theorem upTo_from (ends r : List UInt8) : upTo ends r ++ from' ends r = r := List.takeWhile_append_dropWhile
theorem indexAny_cutP {ends : List UInt8} {p : UInt8 → Bool} (hp : ∀ b, p b = !ends.contains b) : ∀ (r : List UInt8), (Lib.indexAny r ends = -1 ∧ r.takeWhile p = r ∧ r.dropWhile p = []) ∨ ∃ k : Nat, Lib.indexAny r ends = k ∧ k < r.length ∧ r.takeWhile p = r.take k ∧ r.dropWhile p = r.drop k
 | [] => .inl ⟨rfl, rfl, rfl⟩
 | b :: l => by
  rw [Lib.indexAny]
  cases hb : ends.contains b with
  | true =>
   have h : p b = false := by rw [hp, hb]; rfl
   exact .inr ⟨0, by simp, by simp, by rw [List.takeWhile_cons, h]; simp, by rw [List.dropWhile_cons, h]; simp⟩
  | false =>
   have h : p b = true := by rw [hp, hb]; rfl
   rw [List.takeWhile_cons, List.dropWhile_cons, h]
   rcases indexAny_cutP hp l with ⟨h1, h2, h3⟩ | ⟨k, h1, h2, h3, h4⟩
   ·exact .inl ⟨by simp [h1], by simp [h2], by simp [h3]⟩
   ·right
    have : ((k : Int) == -1) = false := by simp
    refine ⟨k + 1, ?_, by simpa using h2, by simp [h3], by simp [h4]⟩
    rw [h1, this]
    simp
theorem indexAny_cut (r ends : List UInt8) : (Lib.indexAny r ends = -1 ∧ upTo ends r = r ∧ from' ends r = []) ∨ ∃ k : Nat, Lib.indexAny r ends = k ∧ k < r.length ∧ upTo ends r = r.take k ∧ from' ends r = r.drop k := indexAny_cutP (fun _ => rfl) r
/-- The library's errors are kept by what changes another block. -/
theorem EVars.keep {w w' : World} {b : Nat} (h : EVars w) (hg : w.grownBy w' (some b)) (h1 : 4 ≠ b) (h2 : 5 ≠ b) : EVars w' := by
 obtain ⟨⟨t, p, e1⟩, ⟨t', p', e2⟩⟩ := h
 refine ⟨⟨t, p, ?_⟩, ⟨t', p', ?_⟩⟩
 ·have hl : 4 < w.heap.size := cell_lt e1
  rw [cell_same (hg.block 4 hl (by intro e; exact h1 (Option.some.inj e)))]; exact e1
 ·have hl : 5 < w.heap.size := cell_lt e2
  rw [cell_same (hg.block 5 hl (by intro e; exact h2 (Option.some.inj e)))]; exact e2
/-- Block g is a parser at r. -/
def PrS (w : World) (g mw mc : Nat) (r : List UInt8) : Prop := w.heap[g]? = some (.cells #[.string (bA r), .map (some mw), .map (some mc)] 88 (0, 0)) ∧ Words w mw ∧ Chars w mc ∧ (mw < g ∧ mc < g) ∧ EVars w ∧ 4 < g ∧ 5 < g
theorem PrS.lt {w : World} {g mw mc : Nat} {r : List UInt8} (h : PrS w g mw mc r) : g < w.heap.size := lt_of_block h.1
theorem PrS.below {w w' : World} {g mw mc : Nat} {r : List UInt8} (h : PrS w g mw mc r) (hb : Below w.heap.size w w') : PrS w' g mw mc r := by
 obtain ⟨h1, h2, h3, h4, h5, h6⟩ := h
 exact ⟨(hb.block g (lt_of_block h1)).trans h1, h2.same (hb.block _ h2.lt), h3.same (hb.block _ h3.lt), h4, h5.below hb, h6⟩
/-- It is kept by what changes a later block, or none. -/
theorem PrS.kept {w w' : World} {g mw mc b : Nat} {r : List UInt8} (h : PrS w g mw mc r) (hg : w.grownBy w' (some b)) (hb : g < b) : PrS w' g mw mc r := by
 obtain ⟨h1, h2, h3, ⟨h4, h5⟩, h6, h7, h8⟩ := h
 exact ⟨keepG hg (by omega) h1, h2.same (hg.block _ h2.lt (by intro e; have := Option.some.inj e; omega)), h3.same (hg.block _ h3.lt (by intro e; have := Option.some.inj e; omega)), ⟨h4, h5⟩, h6.keep hg (by omega) (by omega), h7, h8⟩
theorem PrS.set {w : World} {g mw mc : Nat} {r : List UInt8} (h : PrS w g mw mc r) (r' : List UInt8) : PrS (w.setCell ⟨g, 0, none⟩ (.string (bA r'))) g mw mc r' ∧ w.grownBy (w.setCell ⟨g, 0, none⟩ (.string (bA r'))) (some g) := by
 obtain ⟨h1, h2, h3, ⟨h4, h5⟩, h6, h7, h8⟩ := h
 have k := heap_set h1 (j := 0) (.string (bA r'))
 have hg := grown_set w g 0 (.string (bA r'))
 refine ⟨⟨by simpa using k, h2.same (heap_setCell_other w ⟨g, 0, none⟩ _ _ (by show mw ≠ g; omega)), h3.same (heap_setCell_other w ⟨g, 0, none⟩ _ _ (by show mc ≠ g; omega)), ⟨h4, h5⟩, h6.keep hg (by omega) (by omega), h7, h8⟩, hg⟩
/-- A method of the parser's has gone on to r'. -/
def PPost (g mw mc : Nat) (w : World) (v : Value) (r' : List UInt8) (e : Ending) (w' : World) : Prop := e = .returned v ∧ PrS w' g mw mc r' ∧ w.grownBy w' (some g)
set_option maxHeartbeats 800000 in
set_option maxRecDepth 100000 in
theorem skip_any (p : ByteArray) {g mw mc : Nat} {r : List UInt8} (w : World) (h : PrS w g mw mc r) : Calls Tryz.prog 98 #[.pointer (some ⟨g, 0, none⟩), .string p] w (PPost g mw mc w (.bool (Lib.hasPrefix r p.data.toList)) (Lib.trimPrefix r p.data.toList)) := by
 have c0 : w.cell? ⟨g, 0, none⟩ = some (.string (bA r)) := cell_blk h.1 rfl
 have f0 : w.frozen? ⟨g, 0, none⟩ = false := free_blk h.1
 have hc := cutp_any (bA r) p w
 rw [bA_data] at hc
 have ST := Lib.hid (h.set (Lib.trimPrefix r p.data.toList))
 have C : Hid (Calls Tryz.prog 120 #[.string (bA r), .string p] w fun e w' => e = .returned (.tuple #[.string (bA (Lib.trimPrefix r p.data.toList)), .bool (Lib.hasPrefix r p.data.toList)]) ∧ w = w') := hc
 clear hc h
 generalize Lib.trimPrefix r p.data.toList = r' at C ST ⊢
 generalize Lib.hasPrefix r p.data.toList = b at C ⊢
 go_enter Tryz.func98, Tryz.ntmps98
 go_wp2_with (go_at_call 120; (with_reducible refine (C.out).mono ?_); rintro e w1 ⟨rfl, rfl⟩)
 go_ret
 exact ⟨rfl, ST.out.1, ST.out.2⟩
set_option maxHeartbeats 800000 in
set_option maxRecDepth 100000 in
theorem take_any' (n : Nat) {g mw mc : Nat} {r : List UInt8} (w : World) (h : PrS w g mw mc r) (hn : n ≤ 1000000) (hr : r.length ≤ 1000000) : Calls Tryz.prog 138 #[.pointer (some ⟨g, 0, none⟩), .int .i64 (n : Int)] w (PPost g mw mc w (.string (bA (r.take n))) (r.drop n)) := by
 have c0 : w.cell? ⟨g, 0, none⟩ = some (.string (bA r)) := cell_blk h.1 rfl
 have f0 : w.frozen? ⟨g, 0, none⟩ = false := free_blk h.1
 have hz := bA_size r
 by_cases q : n ≤ r.length
 ·have q1 : (n : Int) ≤ ((bA r).size : Int) := by omega
  have q0 : (0 : Int) ≤ (n : Int) := by omega
  have qm : min (n : Int) ((bA r).size : Int) = (n : Int) := by omega
  have k1 := bA_head r n
  have k2 := bA_tail r n
  have ST := Lib.hid (h.set (r.drop n))
  clear hz q h
  go_enter Tryz.func138, Tryz.ntmps138
  go_wp2
  go_ret
  exact ⟨rfl, ST.out.1, ST.out.2⟩
 ·obtain ⟨m, hm⟩ : ∃ m, m = (bA r).size := ⟨_, rfl⟩
  have e1 : r.take n = r.take m := by rw [hm, hz, List.take_of_length_le (by omega), List.take_of_length_le (Nat.le_refl _)]
  have e2 : r.drop n = r.drop m := by rw [hm, hz, List.drop_eq_nil_of_le (by omega), List.drop_eq_nil_of_le (Nat.le_refl _)]
  have k1 := bA_head r m
  have k2 := bA_tail r m
  rw [← hm] at k2
  have ST := Lib.hid (h.set (r.drop m))
  have qm : min (n : Int) (m : Int) = (m : Int) := by omega
  have qn : (bA r).size = m := hm.symm
  have q0 : (0 : Int) ≤ (m : Int) := by omega
  have k3 : bA (r.drop m) = ByteArray.empty := by rw [hm, hz, List.drop_eq_nil_of_le (Nat.le_refl _)]; rfl
  rw [k3] at ST
  rw [e1, e2]
  clear hz q h e1 e2 hm
  go_enter Tryz.func138, Tryz.ntmps138
  go_wp2
  go_ret
  exact ⟨rfl, ST.out.1, ST.out.2⟩
set_option maxHeartbeats 800000 in
set_option maxRecDepth 100000 in
theorem until_any (ends : ByteArray) {g mw mc : Nat} {r : List UInt8} (w : World) (h : PrS w g mw mc r) (h2 : 2 ≤ ends.size) (hc8 : ends.size ≤ 100) (hr : r.length ≤ 1000000) (hA : ∀ (j : Nat) b, ends.data.toList[j]? = some b → b.toNat < 128) : Calls Tryz.prog 122 #[.pointer (some ⟨g, 0, none⟩), .string ends] w (PPost g mw mc w (.string (bA (upTo ends.data.toList r))) (from' ends.data.toList r)) := by
 have c0 : w.cell? ⟨g, 0, none⟩ = some (.string (bA r)) := cell_blk h.1 rfl
 have hz := bA_size r
 have X := idxany_any (bA r) ends w h2 hc8 (by omega) hA
 rw [bA_data] at X
 have HP := Lib.hid h
 have T := Lib.hid (fun (n : Nat) (wx : World) (hx : PrS wx g mw mc r) (hn : n ≤ r.length) => take_any' n wx hx (by omega) hr)
 rcases indexAny_cut r ends.data.toList with ⟨i1, i2, i3⟩ | ⟨k, i1, i2, i3, i4⟩
 ·rw [i1] at X
  have XX := Lib.hid X
  rw [i2, i3]
  have T2 := Lib.hid (fun wx hx => T.out r.length wx hx (Nat.le_refl _))
  rw [List.take_of_length_le (Nat.le_refl _), List.drop_eq_nil_of_le (Nat.le_refl _)] at T2
  have hlt := h.lt
  clear X i1 i2 i3 h hA h2 hc8 T
  go_enter Tryz.func122, Tryz.ntmps122
  go_upto_region 2 with (go_at_call 137; (with_reducible refine (XX.out).mono ?_); rintro e w1 ⟨rfl, hb1⟩)
  have h1 := HP.out.below hb1
  have c1 : w1.cell? ⟨g, 0, none⟩ = some (.string (bA r)) := cell_blk h1.1 rfl
  have T3 := Lib.hid (T2.out w1 h1)
  clear c0 h1 T2
  go_wp2_with (go_at_call 138; (with_reducible refine (T3.out).mono ?_); rintro e w2 ⟨rfl, hp, hg⟩)
  go_ret
  exact ⟨rfl, hp, gtrans (grown_of_below hb1 (Nat.le_refl _) _) hg⟩
 ·rw [i1] at X
  have XX := Lib.hid X
  rw [i3, i4]
  have T2 := Lib.hid (fun wx hx => T.out k wx hx (Nat.le_of_lt i2))
  have k0 : ¬ (k : Int) < 0 := by omega
  clear X i1 i2 i3 i4 h hA h2 hc8 T
  go_enter Tryz.func122, Tryz.ntmps122
  go_upto_region 2 with (go_at_call 137; (with_reducible refine (XX.out).mono ?_); rintro e w1 ⟨rfl, hb1⟩)
  have h1 := HP.out.below hb1
  have T3 := Lib.hid (T2.out w1 h1)
  clear c0 h1 T2
  go_wp2_with (go_at_call 138; (with_reducible refine (T3.out).mono ?_); rintro e w2 ⟨rfl, hp, hg⟩)
  go_ret
  exact ⟨rfl, hp, gtrans (grown_of_below hb1 (Nat.le_refl _) _) hg⟩
end Go.Proofs.YtdppdonaojdceaaGreatDoor
