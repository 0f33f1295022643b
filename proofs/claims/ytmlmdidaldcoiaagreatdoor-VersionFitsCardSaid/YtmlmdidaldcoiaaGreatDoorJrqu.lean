/- Nodes without text or items as values, and how a map of such nodes is read. No program. -/
import Derived.Test.YtmlmdidaldcoiaaGreatDoorProg
import Derived.Test.YtmlmdidaldcoiaaGreatDoorRows
import Derived.Test.YtmlmdidaldcoiaaGreatDoorCwt
import Derived.Test.YtmlmdidaldcoiaaGreatDoorJwn
import Derived.Test.YtmlmdidaldcoiaaGreatDoorMkit
import Derived.Maps.OwnSet
import Derived.Maps.StringElems
import Derived.DeepKeys4
import Derived.Lib.AtoiAllCases
import Derived.Lib.TrimUEq
import Derived.Laws.RangeString
import Derived.Laws.Runes
import Derived.WalkMore
import Derived.BigQuiet
import Derived.Deep.LoopGhost
import Derived.Shelf.Small.Wraps
import Derived.Shelf.Small.Strs
import Derived.Shelf.Strings.Runes
import Derived.Shelf.Strings.IndexAnyAll
import Derived.Shelf.Strconv.ErrVarAll
import Derived.Shelf.Strconv.ToError
import Derived.Lib.LaidU8
import Derived.Maps.RangeWalk
import Derived.Deep.QuietTactic
namespace Go.Proofs.YtmlmdidaldcoiaaGreatDoor
open Go Go.Maps Go.ChangeShapes Go.WideShapes Go.ChangeAt Go.RowKit
set_option linter.unusedVariables false
set_option linter.unusedSimpArgs false

/-- A leaf without text. -/
def leafV (k : Int) (b : Bool) : Value := .agg #[.int .i64 k, .bool b, .int .i64 0, .string ⟨#[]⟩, .slice none 0 0, .slice none 0 0]
open Classical in
/-- How the three words' nodes are read. -/
noncomputable def wordR (v : Value) : Option (DataW Unit × List MemPlace) := if v = leafV 0 false then some (.lit (.int .i64 0), []) else if v = leafV 1 false then some (.lit (.int .i64 1), []) else if v = leafV 1 true then some (.lit (.int .i64 2), []) else none
end Go.Proofs.YtmlmdidaldcoiaaGreatDoor
/- The map that Decode makes: the nodes that are a byte, by their heads. -/
namespace Go.Proofs.YtmlmdidaldcoiaaGreatDoor
open Go Go.Maps Go.ChangeShapes Go.WideShapes Go.ChangeAt Go.RowKit
set_option linter.unusedVariables false
set_option linter.unusedSimpArgs false

/-- A head as a map's key. -/
def hKey (m n : Nat) : Lit := .string (keyBytes [.int .i64 (m : Int), .int .u64 (n : Int)])
def hD1 : DataW Unit := (DataW.map []).put (hKey 7 22) (.lit (.int .i64 0))
def hD2 : DataW Unit := hD1.put (hKey 7 20) (.lit (.int .i64 1))
def hD3 : DataW Unit := hD2.put (hKey 7 21) (.lit (.int .i64 2))
set_option maxRecDepth 100000
def Heads (w : World) (m : Nat) : Prop := w.ownsMap Tryz.prog 200 wordR m 3 hD3
end Go.Proofs.YtmlmdidaldcoiaaGreatDoor
/- Encode: the program's own and the document's, with the same right side; Quote, twice. -/
namespace Go.Proofs.YtmlmdidaldcoiaaGreatDoor
open Go Go.ChangeShapes Go.WideShapes Go.ChangeAt Go.RowKit
set_option linter.unusedVariables false
set_option linter.unusedSimpArgs false

/-- The text of a node, and the error. -/
def jsS (x : ND) : ByteArray := if validN 8 x then (if 65536 < (writeN 8 x).length then ⟨#[]⟩ else ⟨(writeN 8 x).toArray⟩) else ⟨#[]⟩
def jsE (x : ND) : Int := if validN 8 x then (if 65536 < (writeN 8 x).length then 3 else 0) else 1
theorem jse_bad {x : ND} (h : validN 8 x = false) : jsS x = ⟨#[]⟩ ∧ jsE x = 1 := by unfold jsS jsE; rw [h]; exact ⟨rfl, rfl⟩
theorem jse_long {x : ND} (h : validN 8 x = true) (hl : 65536 < (writeN 8 x).length) : jsS x = ⟨#[]⟩ ∧ jsE x = 3 := by unfold jsS jsE; rw [h, if_pos rfl, if_pos rfl, if_pos hl, if_pos hl]; exact ⟨rfl, rfl⟩
theorem jse_good {x : ND} (h : validN 8 x = true) (hl : ¬ 65536 < (writeN 8 x).length) : jsS x = ⟨(writeN 8 x).toArray⟩ ∧ jsE x = 0 := by unfold jsS jsE; rw [h, if_pos rfl, if_pos rfl, if_neg hl, if_neg hl]; exact ⟨rfl, rfl⟩
theorem jse_size (x : ND) : (jsS x).size ≤ 65536 := by
 unfold jsS
 split
 ·split
  ·exact Nat.zero_le _
  ·rename_i h; rw [ba_size]; omega
 ·exact Nat.zero_le _
/-- The text and the error are handed out. -/
def EncPost (x : ND) (w : World) (e : Ending) (w' : World) : Prop := e = .returned (.tuple #[.string (jsS x), .int .i64 (jsE x)]) ∧ Below w.heap.size w w'
theorem ITb.of {w w' : World} {g : Nat} (h : Itab w) (hb : Below w.heap.size w w') (hg : w.heap.size ≤ g) : ITb g w' := fun w'' h'' => Lib.tabBelow_of_tabIs h w'' (hb.trans (h''.mono hg))
theorem WSt.fresh {w : World} {m : Nat} (hm : m < w.heap.size) : WStJ (w.heap.size + 1) (w.alloc (.cells #[.slice none 0 0, .map (some m)] 151)) w.heap.size m [] :=
 ⟨_, heap_alloc_new _ _, World.ownsRow_nil _ _ _ _, Nat.lt_succ_self _, hm⟩
theorem WFr.below {TB : TypeId} {g C : Nat} {w w' : World} (h : WFr TB g w w') (hC : C ≤ g) : Below C w w' := h.1.mono hC
set_option maxHeartbeats 1600000 in
set_option maxRecDepth 100000 in
theorem jenc_any {D : Nat} {S : Nat → Prop} (cs : List Value) (x : ND) (w : World) (h : NodeIn D S w cs x) (hS : ∀ b, S b → b < w.heap.size) (hl : lowV D x) (hw : validN 8 x = true → numsB 8 x = true) (hT : Utab w) (hI : Itab w) : Calls Tryz.prog 99 #[.agg cs.toArray] w (EncPost x w) := by
 obtain ⟨a1, l1, c1, a2, l2, c2, rfl⟩ := h.slices
 obtain ⟨ib, hib, hb0, hb1, hb2⟩ := info_parts Tryz.info5
 have b1 := (Below.refl w.heap.size w).alloc (o := .cells #[.int .i64 x.kind, .bool x.bool, .int .i64 x.num, .string x.text, .slice a1 l1 c1, .slice a2 l2 c2] 30) (Nat.le_refl _)
 have ck := six_of (heap_alloc_new w (.cells #[.int .i64 x.kind, .bool x.bool, .int .i64 x.num, .string x.text, .slice a1 l1 c1, .slice a2 l2 c2] 30))
 have hwl : w.heap.size < (w.alloc (.cells #[.int .i64 x.kind, .bool x.bool, .int .i64 x.num, .string x.text, .slice a1 l1 c1, .slice a2 l2 c2] 30)).heap.size := by simp
 obtain ⟨w1, hw1⟩ : ∃ W, W = w.alloc (.cells #[.int .i64 x.kind, .bool x.bool, .int .i64 x.num, .string x.text, .slice a1 l1 c1, .slice a2 l2 c2] 30) := ⟨_, rfl⟩
 rw [← hw1] at b1 ck hwl
 have V := Lib.hid (isvalidV_any _ x w1 (h.same fun b hb => b1.block b (hS b hb)) (fun b hb => Nat.lt_of_lt_of_le (hS b hb) b1.size) hl (hT.below b1))
 have B1 := Lib.hid b1
 have CK := Lib.hid ck
 have HI := Lib.hid hI
 have HN := Lib.hid h
 have HS := Lib.hid hS
 have HW := Lib.hid hw
 have WL := Lib.hid hwl
 clear h hS hl hw hT hI b1 hwl hib
 cases hv : validN 8 x with
 | false =>
  rw [hv] at V
  obtain ⟨e1, e2⟩ := jse_bad hv
  have HE := Lib.hid (And.intro e1 e2)
  clear hv e1 e2
  go_enter Tryz.func99, Tryz.ntmps99
  go_upto_region 1 with fail
  rw [← hw1]
  clear hw1
  go_wp2_with (go_at_call 22; (with_reducible refine (V.out).mono ?_); rintro e w2 ⟨rfl, hb2⟩)
  go_ret2
  exact ⟨by rw [HE.out.1, HE.out.2]; rfl, B1.out.trans (hb2.mono B1.out.size)⟩
 | true =>
  rw [hv] at V
  have hnu := HW.out hv
  have hwz := writeN_same (e := 8) (d := 8) (Nat.le_refl _) hv
  have HV := Lib.hid hv
  have HNU := Lib.hid hnu
  clear hv hnu hwz
  go_enter Tryz.func99, Tryz.ntmps99
  go_upto_region 1 with fail
  rw [← hw1]
  clear hw1
  go_upto_region 3 with (go_at_call 22; (with_reducible refine (V.out).mono ?_); rintro e w2 ⟨rfl, hb2⟩)
  have LE := Lib.hid (letters_any w2)
  have hB2 := B1.out.trans (hb2.mono B1.out.size)
  have HB2 := Lib.hid hb2
  have hz2 : w.heap.size < w2.heap.size := Nat.lt_of_lt_of_le WL.out hb2.size
  have BB2 := Lib.hid hB2
  clear ck hb2 hB2
  go_upto_region 4 with (go_at_call 124; (with_reducible refine (LE.out).mono ?_); rintro e w3 ⟨rfl, hlt3, hb3⟩)
  have hB3 := BB2.out.trans (hb3.mono BB2.out.size)
  have hz3 : w2.heap.size < w3.heap.size := hlt3.lt
  have b4 := (Below.refl w3.heap.size w3).alloc (o := .cells #[.slice none 0 0, .map (some w2.heap.size)] 151) (Nat.le_refl _)
  have st4 := WSt.fresh (w := w3) hz3
  have hz4 : (w3.alloc (.cells #[.slice none 0 0, .map (some w2.heap.size)] 151)).heap.size = w3.heap.size + 1 := by simp
  have hlt4 := hlt3.below b4
  have hB4 := hB3.trans (b4.mono hB3.size)
  have hb24 := hb3.trans (b4.mono hb3.size)
  have ck4 := (HB2.out.trans (hb24.mono HB2.out.size))
  have cc4 : ∀ q v, w1.cell? ⟨w.heap.size, q, none⟩ = some v → (w3.alloc (.cells #[.slice none 0 0, .map (some w2.heap.size)] 151)).cell? ⟨w.heap.size, q, none⟩ = some v := fun q v hq => (ck4.cell (p := ⟨w.heap.size, q, none⟩) WL.out).trans hq
  have d0 := cc4 0 _ CK.out.1
  have d1 := cc4 1 _ CK.out.2.1
  have d2 := cc4 2 _ CK.out.2.2.1
  have d3 := cc4 3 _ CK.out.2.2.2.1
  have d4 := cc4 4 _ CK.out.2.2.2.2.1
  have d5 := cc4 5 _ CK.out.2.2.2.2.2
  clear cc4 ck4
  generalize w3.alloc (.cells #[.slice none 0 0, .map (some w2.heap.size)] 151) = w4 at b4 st4 hz4 hlt4 hB4 hb24 d0 d1 d2 d3 d4 d5 ⊢
  have N4 := Lib.hid (nodew_any 8 (by decide) D S _ x w4 (w3.heap.size + 1) w3.heap.size w2.heap.size [] st4 hlt4 (by omega) (Nat.zero_le _) (HN.out.same fun b hb => hB4.block b (HS.out b hb)) (fun b hb => by have := HS.out b hb; omega) HV.out HNU.out (ITb.of HI.out hB4 (by omega)))
  have HB4 := Lib.hid hB4
  have hwg : w.heap.size ≤ w3.heap.size := by omega
  clear hb3 b4 st4 hlt3 hlt4 hB3 hB4 hb24 hz4
  go_upto_region 5 with (go_at_call 125; (with_reducible refine (N4.out).mono ?_); rintro e w5 ⟨rfl, l5, hst5, hout5, hlen5, hfr5⟩)
  clear d0 d1 d2 d3 d4 d5
  have EX := Lib.hid (wexc_any w5 hst5)
  have hfin := HB4.out.trans (hfr5.below hwg)
  obtain ⟨v5, k1, k2, -, -⟩ := hst5
  have c5 : w5.cell? ⟨w3.heap.size, 0, none⟩ = some v5 := cell_blk k1 rfl
  obtain ⟨ao, cap, rfl, -, -⟩ := wown_form k2
  have hcv := conv_owns (P := Tryz.prog) w5 54 9 5 (w3.heap.size + 1) l5.length _ l5 k2 Tryz.underlying54 Tryz.underlying5 Tryz.underlying9
  have HFIN := Lib.hid hfin
  clear hfin hfr5 k1 k2 hlen5
  by_cases hov : 65536 < l5.length
  ·rw [decide_eq_true hov] at EX
   have hlong := hout5.over hov
   obtain ⟨e1, e2⟩ := jse_long HV.out (by simpa using hlong)
   have HE := Lib.hid (And.intro e1 e2)
   clear e1 e2 hlong hout5 hov
   go_wp2_with (go_at_call 126; (with_reducible refine (EX.out).mono ?_); rintro e w6 ⟨rfl, rfl⟩)
   go_ret2
   exact ⟨by rw [HE.out.1, HE.out.2]; rfl, HFIN.out⟩
  ·rw [decide_eq_false hov] at EX
   have he := hout5.fits hov
   have hnl : ¬ 65536 < (writeN 8 x).length := by rw [he] at hov; simpa using hov
   obtain ⟨e1, e2⟩ := jse_good HV.out hnl
   have HE := Lib.hid (And.intro e1 e2)
   have HEQ := Lib.hid he
   clear e1 e2 hnl hout5 hov he
   go_wp2_with (go_at_call 126; (with_reducible refine (EX.out).mono ?_); rintro e w6 ⟨rfl, rfl⟩)
   go_ret2
   exact ⟨by rw [HE.out.1, HE.out.2, HEQ.out]; rfl, HFIN.out⟩
theorem rwrite_zero : RWriteAt 0 := by
 intro D S cs x w h hS hv
 cases hv
theorem rwrite_any : ∀ d, RWriteAt d
 | 0 => rwrite_zero
 | d + 1 => rwrite_step (rwrite_any d)
set_option maxHeartbeats 800000 in
set_option maxRecDepth 100000 in
theorem jrenc_any {D : Nat} {S : Nat → Prop} (cs : List Value) (x : ND) (w : World) (h : NodeIn D S w cs x) (hS : ∀ b, S b → b < w.heap.size) (hl : lowV D x) (hw : validN 8 x = true → numsB 8 x = true ∧ (writeN 8 x).length ≤ 35184372088832) (hT : Utab w) (hI : Itab w) : Calls Tryz.prog 48 #[.agg cs.toArray] w (EncPost x w) := by
 obtain ⟨a1, l1, c1, a2, l2, c2, rfl⟩ := h.slices
 have b1 := (Below.refl w.heap.size w).alloc (o := .cells #[.int .i64 x.kind, .bool x.bool, .int .i64 x.num, .string x.text, .slice a1 l1 c1, .slice a2 l2 c2] 30) (Nat.le_refl _)
 have ck := six_of (heap_alloc_new w (.cells #[.int .i64 x.kind, .bool x.bool, .int .i64 x.num, .string x.text, .slice a1 l1 c1, .slice a2 l2 c2] 30))
 have hwl : w.heap.size < (w.alloc (.cells #[.int .i64 x.kind, .bool x.bool, .int .i64 x.num, .string x.text, .slice a1 l1 c1, .slice a2 l2 c2] 30)).heap.size := by simp
 obtain ⟨w1, hw1⟩ : ∃ W, W = w.alloc (.cells #[.int .i64 x.kind, .bool x.bool, .int .i64 x.num, .string x.text, .slice a1 l1 c1, .slice a2 l2 c2] 30) := ⟨_, rfl⟩
 rw [← hw1] at b1 ck hwl
 have V := Lib.hid (risvalid_any _ x w1 (h.same fun b hb => b1.block b (hS b hb)) (fun b hb => Nat.lt_of_lt_of_le (hS b hb) b1.size) hl (hT.below b1))
 have B1 := Lib.hid b1
 have CK := Lib.hid ck
 have HI := Lib.hid hI
 have HN := Lib.hid h
 have HS := Lib.hid hS
 have HW := Lib.hid hw
 have WL := Lib.hid hwl
 clear h hS hl hw hT hI b1 hwl
 cases hv : validN 8 x with
 | false =>
  rw [hv] at V
  obtain ⟨e1, e2⟩ := jse_bad hv
  have HE := Lib.hid (And.intro e1 e2)
  clear hv e1 e2
  go_enter Tryz.func48, Tryz.ntmps48
  go_upto_region 1 with fail
  rw [← hw1]
  clear hw1
  go_wp2_with (go_at_call 27; (with_reducible refine (V.out).mono ?_); rintro e w2 ⟨rfl, hb2⟩)
  go_ret2
  exact ⟨by rw [HE.out.1, HE.out.2]; rfl, B1.out.trans (hb2.mono B1.out.size)⟩
 | true =>
  rw [hv] at V
  obtain ⟨hnu, hlen⟩ := HW.out hv
  have HV := Lib.hid hv
  have HNU := Lib.hid hnu
  have HLEN := Lib.hid hlen
  clear hv hnu hlen
  go_enter Tryz.func48, Tryz.ntmps48
  go_upto_region 1 with fail
  rw [← hw1]
  clear hw1
  go_upto_region 3 with (go_at_call 27; (with_reducible refine (V.out).mono ?_); rintro e w2 ⟨rfl, hb2⟩)
  have hB2 := B1.out.trans (hb2.mono B1.out.size)
  have cc : ∀ q v, w1.cell? ⟨w.heap.size, q, none⟩ = some v → w2.cell? ⟨w.heap.size, q, none⟩ = some v := fun q v hq => (hb2.cell (p := ⟨w.heap.size, q, none⟩) WL.out).trans hq
  have d0 := cc 0 _ CK.out.1
  have d1 := cc 1 _ CK.out.2.1
  have d2 := cc 2 _ CK.out.2.2.1
  have d3 := cc 3 _ CK.out.2.2.2.1
  have d4 := cc 4 _ CK.out.2.2.2.2.1
  have d5 := cc 5 _ CK.out.2.2.2.2.2
  have WR := Lib.hid (rwrite_any 8 D S _ x w2 (HN.out.same fun b hb => hB2.block b (HS.out b hb)) (fun b hb => Nat.lt_of_lt_of_le (HS.out b hb) hB2.size) HV.out HNU.out HLEN.out (HI.out.below hB2))
  obtain ⟨s, hs⟩ : ∃ s : ByteArray, s = ⟨(writeN 8 x).toArray⟩ := ⟨_, rfl⟩
  rw [← hs] at WR
  have hsz : s.size = (writeN 8 x).length := by rw [hs, ba_size]
  have HBB := Lib.hid hB2
  clear ck cc hb2 hB2
  by_cases hov : 65536 < s.size
  ·have hov' : (65536 : Int) < (s.size : Int) := by omega
   obtain ⟨e1, e2⟩ := jse_long HV.out (by omega)
   have HE := Lib.hid (And.intro e1 e2)
   clear e1 e2 hs hsz hov
   go_wp2_with (go_at_call 54; (with_reducible refine (WR.out).mono ?_); rintro e w3 ⟨rfl, hb3⟩)
   go_ret2
   exact ⟨by rw [HE.out.1, HE.out.2]; rfl, HBB.out.trans (hb3.mono HBB.out.size)⟩
  ·have hov' : ¬ (65536 : Int) < (s.size : Int) := by omega
   obtain ⟨e1, e2⟩ := jse_good HV.out (by omega)
   have HE := Lib.hid (And.intro (e1.trans hs.symm) e2)
   clear e1 e2 hs hsz hov
   go_wp2_with (go_at_call 54; (with_reducible refine (WR.out).mono ?_); rintro e w3 ⟨rfl, hb3⟩)
   go_ret2
   exact ⟨by rw [HE.out.1, HE.out.2]; rfl, HBB.out.trans (hb3.mono HBB.out.size)⟩
end Go.Proofs.YtmlmdidaldcoiaaGreatDoor
/- The sanity check of the statements of json; nodes that a law asks about. -/
namespace Go.Proofs.YtmlmdidaldcoiaaGreatDoor
open Go Go.ChangeShapes Go.WideShapes Go.ChangeAt Go.RowKit
set_option linter.unusedVariables false
set_option linter.unusedSimpArgs false

theorem numsB_up : ∀ {d e : Nat} {x : ND}, d ≤ e → validN d x = true → numsB d x = true → numsB e x = true
 | 0, _, _, _, h, _ => by cases h
 | d + 1, 0, _, h, _, _ => by omega
 | d + 1, e + 1, x, hd, hv, hn => by
  rw [validN_succ, Bool.and_eq_true, List.all_eq_true] at hv
  rw [numsB_succ, Bool.and_eq_true, List.all_eq_true] at hn ⊢
  exact ⟨hn.1, fun y hy => numsB_up (by omega) (hv.2 y hy) (hn.2 y hy)⟩
end Go.Proofs.YtmlmdidaldcoiaaGreatDoor
/- Numbers that are read: two hexadecimal digits, decimal numbers. -/
namespace Go.Proofs.YtmlmdidaldcoiaaGreatDoor
open Go Go.ChangeShapes Go.WideShapes Go.ChangeAt Go.RowKit
set_option linter.unusedVariables false
set_option linter.unusedSimpArgs false

/-- The two errors of the library's are there. -/
def EVars (w : World) : Prop := (∃ t p, w.cell? ⟨3, 0, none⟩ = some (.iface t p)) ∧ (∃ t p, w.cell? ⟨4, 0, none⟩ = some (.iface t p))
theorem EVars.below {w w' : World} (h : EVars w) (hb : Below w.heap.size w w') : EVars w' := by
 obtain ⟨⟨t, p, h1⟩, ⟨t', p', h2⟩⟩ := h
 exact ⟨⟨t, p, (hb.cell (p := ⟨_, 0, none⟩) (cell_lt h1)).trans h1⟩, ⟨t', p', (hb.cell (p := ⟨_, 0, none⟩) (cell_lt h2)).trans h2⟩⟩
end Go.Proofs.YtmlmdidaldcoiaaGreatDoor
/- The parser's cursor: skip, take, until. -/
namespace Go.Proofs.YtmlmdidaldcoiaaGreatDoor
open Go Go.ChangeShapes Go.WideShapes Go.ChangeAt Go.RowKit
set_option linter.unusedVariables false
set_option linter.unusedSimpArgs false

/-- Bytes as a string. -/
def bA (l : List UInt8) : ByteArray := ⟨l.toArray⟩
theorem bA_data (l : List UInt8) : (bA l).data.toList = l := by simp [bA]
end Go.Proofs.YtmlmdidaldcoiaaGreatDoor
/- How long a node's text is at most, and what is encoded is decoded. No program. -/
namespace Go.Proofs.YtmlmdidaldcoiaaGreatDoor
open Go.Lib
set_option linter.unusedVariables false

theorem sepL_sum : ∀ l : List (List UInt8), (sepL l).length ≤ (l.map fun a => a.length + 1).sum
 | [] => Nat.zero_le _
 | [a] => by simp [sepL]
 | a :: b :: t => by
  have := sepL_sum (b :: t)
  show (a ++ 44 :: sepL (b :: t)).length ≤ _
  rw [List.length_append, List.length_cons, List.map_cons, List.sum_cons]
  omega
theorem zip_sum {W : ND → List UInt8} {c : ND → Nat} : ∀ (ns : List ByteArray) (its : List ND), (∀ y, y ∈ its → (W y).length ≤ c y) → ((List.zipWith (fun s y => quoteL s.data.toList ++ 58 :: W y) ns its).map fun a => a.length + 1).sum ≤ (ns.map fun s => 6 * s.size + 8).sum + (its.map fun y => c y + 1).sum
 | [], _, _ => by simp
 | _ :: _, [], _ => by simp
 | s :: ss, y :: ys, h => by
  have ih := zip_sum ss ys (fun z hz => h z (by simp [hz]))
  have h1 := quoteL_len s.data.toList
  have h2 : s.data.toList.length = s.size := by rw [Array.length_toList]; rfl
  have h3 := h y (by simp)
  rw [List.zipWith_cons_cons, List.map_cons, List.sum_cons, List.map_cons, List.sum_cons, List.map_cons, List.sum_cons, List.length_append, List.length_cons]
  omega
theorem map_sum {W : ND → List UInt8} {c : ND → Nat} : ∀ (its : List ND), (∀ y, y ∈ its → (W y).length ≤ c y) → ((its.map W).map fun a => a.length + 1).sum ≤ (its.map fun y => c y + 1).sum
 | [], _ => Nat.le_refl _
 | y :: ys, h => by
  have ih := map_sum ys (fun z hz => h z (by simp [hz]))
  have h3 := h y (by simp)
  rw [List.map_cons, List.map_cons, List.sum_cons, List.map_cons, List.sum_cons]
  omega
theorem writeN_cost : ∀ (d : Nat) (x : ND), validN d x = true → numsB d x = true → (writeN d x).length ≤ costN d x
 | 0, _, h, _ => by cases h
 | d + 1, x, h, hn => by
  obtain ⟨hi, hl, htx, hns⟩ := validN_parts h
  obtain ⟨hw, hni⟩ := numsB_parts hn
  have ih : ∀ y, y ∈ x.items → (writeN d y).length ≤ costN d y := fun y hy => writeN_cost d y (hi y hy) (hni y hy)
  have hts : x.text.data.toList.length = x.text.size := by rw [Array.length_toList]; rfl
  rw [costN_succ]
  rcases kinds h with e | e | e | e | e | ⟨e, hlen⟩
  ·rw [e]; exact (show 4 ≤ 24 by decide)
  ·rw [e]
   cases x.bool
   ·exact (show 5 ≤ 24 by decide)
   ·exact (show 4 ≤ 24 by decide)
  ·rw [e]
   show (itoa x.num).length ≤ 24 + 0 + 0 + 0
   unfold wideI at hw
   rw [Bool.and_eq_true, decide_eq_true_eq, decide_eq_true_eq] at hw
   have := itoa_length_le x.num hw.1 hw.2
   omega
  ·rw [e]
   show (quoteL x.text.data.toList).length ≤ 24 + 6 * x.text.size + 0 + 0
   have := quoteL_len x.text.data.toList
   omega
  ·rw [e, writeN_4]
   have h1 := sepL_sum (x.items.map (writeN d))
   have h2 := map_sum x.items ih
   rw [List.length_cons, List.length_append, List.length_singleton]
   show _ ≤ 24 + 0 + 0 + (x.items.map fun y => costN d y + 1).sum
   omega
  ·rw [e, writeN_5]
   have h1 := sepL_sum (List.zipWith (fun s y => quoteL s.data.toList ++ 58 :: writeN d y) x.names x.items)
   have h2 := zip_sum (W := writeN d) (c := costN d) x.names x.items ih
   rw [List.length_cons, List.length_append, List.length_singleton]
   show _ ≤ 24 + 0 + (x.names.map fun s => 6 * s.size + 8).sum + (x.items.map fun y => costN d y + 1).sum
   omega
/-- What is known of the kit's nodes. -/
structure KitJ (x : ND) : Prop where
 err : jsE x = 0
 txt : jsS x = bA (writeN 8 x)
 len : (writeN 8 x).length ≤ 65536
 valid : validN 8 x = true
 nums : numsB 8 x = true
theorem KitJ.ofc {d : Nat} {x : ND} (hd : d ≤ 4) (h : validW d x = true) (hc : costN d x ≤ 65536) : KitJ x := by
 have h8 : validN 8 x = true := validN_mono (by omega) (validW_valid h)
 have hn8 : numsB 8 x = true := numsB_up (by omega) (validW_valid h) (validW_nums h)
 have hl : (writeN 8 x).length ≤ 65536 := by
  rw [writeN_same (e := d) (by omega) (validW_valid h)]
  have := writeN_cost d x (validW_valid h) (validW_nums h)
  omega
 obtain ⟨e1, e2⟩ := jse_good h8 (show ¬ 65536 < (writeN 8 x).length by omega)
 exact ⟨e2, e1, hl, h8, hn8⟩
theorem kitMap_valid {d : Nat} {x : ND} (hd : 1 ≤ d) (h : MapOk (d - 1) x) (hi : ∀ y, y ∈ x.items → validW (d - 1) y = true) : validW d x = true := by
 obtain ⟨m, rfl⟩ : ∃ m, d = m + 1 := ⟨d - 1, by omega⟩
 exact validW_mk ((mapOk_iff h.kind).2 h) (by rw [h.num]; decide) hi
end Go.Proofs.YtmlmdidaldcoiaaGreatDoor
/- The door of the statements that read: seven variables. -/
namespace Go.Proofs.YtmlmdidaldcoiaaGreatDoor
open Go Go.RowKit Go.Shelf Go.Lib
set_option linter.unusedVariables false

theorem star_err : "*" ++ "errors.errorString" = "*errors.errorString" := by decide
theorem row_err : ∀ u, Tryz.prog.typeName? 3 u = some "*errors.errorString" → u = 234 := fun u h =>
 typeName_ptr_named (nm := "errors.errorString") (by rw [star_err]; kernel_rfl) (by kernel_rfl) (by decide) u (by rw [star_err]; exact h)
end Go.Proofs.YtmlmdidaldcoiaaGreatDoor
/- The document's reader: quoted texts. -/
namespace Go.Proofs.YtmlmdidaldcoiaaGreatDoor
open Go Go.ChangeShapes Go.WideShapes Go.ChangeAt Go.RowKit
set_option linter.unusedVariables false
set_option linter.unusedSimpArgs false

theorem drop_at {l : List UInt8} {p : Nat} {c : UInt8} (h : l[p]? = some c) : l.drop p = c :: l.drop (p + 1) := by
 have hp : p < l.length := lt_of_some h
 rw [List.drop_eq_getElem_cons hp]
 rw [List.getElem?_eq_getElem hp] at h
 rw [Option.some.inj h]
end Go.Proofs.YtmlmdidaldcoiaaGreatDoor
