/- Encode: the program's own and the document's, with the same right side; Quote, twice. -/
import Derived.Test.YtdppdonaojdceaaGreatDoorJwn
import Derived.Test.YtdppdonaojdceaaGreatDoorNvw
import Derived.Deep.DeepCutAuto
import Derived.Deep.CutRange
namespace Go.Proofs.YtdppdonaojdceaaGreatDoor
open Go Go.ChangeShapes Go.WideShapes Go.ChangeAt Go.RowKit
set_option linter.unusedVariables false
set_option linter.unusedSimpArgs false

/-- The text of a node, and the error. -/
def jsS (x : ND) : ByteArray := if validN 8 x then (if 65536 < (writeN 8 x).length then ⟨#[]⟩ else ⟨(writeN 8 x).toArray⟩) else ⟨#[]⟩
def jsE (x : ND) : Int := if validN 8 x then (if 65536 < (writeN 8 x).length then 3 else 0) else 1
theorem jse_bad {x : ND} (h : validN 8 x = false) : jsS x = ⟨#[]⟩ ∧ jsE x = 1 := by unfold jsS jsE; rw [h]; exact ⟨rfl, rfl⟩
theorem jse_long {x : ND} (h : validN 8 x = true) (hl : 65536 < (writeN 8 x).length) : jsS x = ⟨#[]⟩ ∧ jsE x = 3 := by unfold jsS jsE; rw [h, if_pos rfl, if_pos rfl, if_pos hl, if_pos hl]; exact ⟨rfl, rfl⟩
theorem jse_good {x : ND} (h : validN 8 x = true) (hl : ¬ 65536 < (writeN 8 x).length) : jsS x = ⟨(writeN 8 x).toArray⟩ ∧ jsE x = 0 := by unfold jsS jsE; rw [h, if_pos rfl, if_pos rfl, if_neg hl, if_neg hl]; exact ⟨rfl, rfl⟩
/-- The text and the error are handed out. -/
def EncPost (x : ND) (w : World) (e : Ending) (w' : World) : Prop := e = .returned (.tuple #[.string (jsS x), .int .i64 (jsE x)]) ∧ Below w.heap.size w w'
theorem ITb.of {w w' : World} {g : Nat} (h : Itab w) (hb : Below w.heap.size w w') (hg : w.heap.size ≤ g) : ITb g w' := fun w'' h'' => Lib.tabBelow_of_tabIs h w'' (hb.trans (h''.mono hg))
theorem WSt.fresh {w : World} {m : Nat} (hm : m < w.heap.size) : WStJ (w.heap.size + 1) (w.alloc (.cells #[.slice none 0 0, .map (some m)] 79)) w.heap.size m [] :=
 ⟨_, heap_alloc_new _ _, World.ownsRow_nil _ _ _ _, Nat.lt_succ_self _, hm⟩
theorem WFr.below {TB : TypeId} {g C : Nat} {w w' : World} (h : WFr TB g w w') (hC : C ≤ g) : Below C w w' := h.1.mono hC
set_option maxHeartbeats 1600000 in
set_option maxRecDepth 100000 in
theorem jenc_any {D : Nat} {S : Nat → Prop} (cs : List Value) (x : ND) (w : World) (h : NodeIn D S w cs x) (hS : ∀ b, S b → b < w.heap.size) (hl : lowV D x) (hw : validN 8 x = true → numsB 8 x = true) (hT : Utab w) (hI : Itab w) : Calls Tryz.prog 39 #[.agg cs.toArray] w (EncPost x w) := by
 obtain ⟨a1, l1, c1, a2, l2, c2, rfl⟩ := h.slices
 obtain ⟨ib, hib, hb0, hb1, hb2⟩ := info_parts Tryz.info5
 have b1 := (Below.refl w.heap.size w).alloc (o := .cells #[.int .i64 x.kind, .bool x.bool, .int .i64 x.num, .string x.text, .slice a1 l1 c1, .slice a2 l2 c2] 30) (Nat.le_refl _)
 have ck := six_of (heap_alloc_new w (.cells #[.int .i64 x.kind, .bool x.bool, .int .i64 x.num, .string x.text, .slice a1 l1 c1, .slice a2 l2 c2] 30))
 have hwl : w.heap.size < (w.alloc (.cells #[.int .i64 x.kind, .bool x.bool, .int .i64 x.num, .string x.text, .slice a1 l1 c1, .slice a2 l2 c2] 30)).heap.size := by simp
 obtain ⟨w1, hw1⟩ : ∃ W, W = w.alloc (.cells #[.int .i64 x.kind, .bool x.bool, .int .i64 x.num, .string x.text, .slice a1 l1 c1, .slice a2 l2 c2] 30) := ⟨_, rfl⟩
 rw [← hw1] at b1 ck hwl
 have V := Lib.hid (isvalidV_any _ x w1 (h.same fun b hb => b1.block b (hS b hb)) (fun b hb => Nat.lt_of_lt_of_le (hS b hb) b1.size) hl (hT.below b1))
 have B1 := Lib.hid b1
 have CK := Lib.hid ck
 have HI := Lib.hid hI
 have HN := Lib.hid h
 have HS := Lib.hid hS
 have HW := Lib.hid hw
 have WL := Lib.hid hwl
 clear h hS hl hw hT hI b1 hwl hib
 cases hv : validN 8 x with
 | false =>
  rw [hv] at V
  obtain ⟨e1, e2⟩ := jse_bad hv
  have HE := Lib.hid (And.intro e1 e2)
  clear hv e1 e2
  go_enter Tryz.func39, Tryz.ntmps39
  go_upto_region 1 with fail
  rw [← hw1]
  clear hw1
  go_wp2_with (go_at_call 31; (with_reducible refine (V.out).mono ?_); rintro e w2 ⟨rfl, hb2⟩)
  go_ret2
  exact ⟨by rw [HE.out.1, HE.out.2]; rfl, B1.out.trans (hb2.mono B1.out.size)⟩
 | true =>
  rw [hv] at V
  have hnu := HW.out hv
  have hwz := writeN_same (e := 8) (d := 8) (Nat.le_refl _) hv
  have HV := Lib.hid hv
  have HNU := Lib.hid hnu
  clear hv hnu hwz
  go_enter Tryz.func39, Tryz.ntmps39
  go_upto_region 1 with fail
  rw [← hw1]
  clear hw1
  go_upto_region 3 with (go_at_call 31; (with_reducible refine (V.out).mono ?_); rintro e w2 ⟨rfl, hb2⟩)
  have LE := Lib.hid (letters_any w2)
  have hB2 := B1.out.trans (hb2.mono B1.out.size)
  have HB2 := Lib.hid hb2
  have hz2 : w.heap.size < w2.heap.size := Nat.lt_of_lt_of_le WL.out hb2.size
  have BB2 := Lib.hid hB2
  clear ck hb2 hB2
  go_upto_region 4 with (go_at_call 62; (with_reducible refine (LE.out).mono ?_); rintro e w3 ⟨rfl, hlt3, hb3⟩)
  have hB3 := BB2.out.trans (hb3.mono BB2.out.size)
  have hz3 : w2.heap.size < w3.heap.size := hlt3.lt
  have b4 := (Below.refl w3.heap.size w3).alloc (o := .cells #[.slice none 0 0, .map (some w2.heap.size)] 79) (Nat.le_refl _)
  have st4 := WSt.fresh (w := w3) hz3
  have hz4 : (w3.alloc (.cells #[.slice none 0 0, .map (some w2.heap.size)] 79)).heap.size = w3.heap.size + 1 := by simp
  have hlt4 := hlt3.below b4
  have hB4 := hB3.trans (b4.mono hB3.size)
  have hb24 := hb3.trans (b4.mono hb3.size)
  have ck4 := (HB2.out.trans (hb24.mono HB2.out.size))
  have cc4 : ∀ q v, w1.cell? ⟨w.heap.size, q, none⟩ = some v → (w3.alloc (.cells #[.slice none 0 0, .map (some w2.heap.size)] 79)).cell? ⟨w.heap.size, q, none⟩ = some v := fun q v hq => (ck4.cell (p := ⟨w.heap.size, q, none⟩) WL.out).trans hq
  have d0 := cc4 0 _ CK.out.1
  have d1 := cc4 1 _ CK.out.2.1
  have d2 := cc4 2 _ CK.out.2.2.1
  have d3 := cc4 3 _ CK.out.2.2.2.1
  have d4 := cc4 4 _ CK.out.2.2.2.2.1
  have d5 := cc4 5 _ CK.out.2.2.2.2.2
  clear cc4 ck4
  generalize w3.alloc (.cells #[.slice none 0 0, .map (some w2.heap.size)] 79) = w4 at b4 st4 hz4 hlt4 hB4 hb24 d0 d1 d2 d3 d4 d5 ⊢
  have N4 := Lib.hid (nodew_any 8 (by decide) D S _ x w4 (w3.heap.size + 1) w3.heap.size w2.heap.size [] st4 hlt4 (by omega) (Nat.zero_le _) (HN.out.same fun b hb => hB4.block b (HS.out b hb)) (fun b hb => by have := HS.out b hb; omega) HV.out HNU.out (ITb.of HI.out hB4 (by omega)))
  have HB4 := Lib.hid hB4
  have hwg : w.heap.size ≤ w3.heap.size := by omega
  clear hb3 b4 st4 hlt3 hlt4 hB3 hB4 hb24 hz4
  go_upto_region 5 with (go_at_call 63; (with_reducible refine (N4.out).mono ?_); rintro e w5 ⟨rfl, l5, hst5, hout5, hlen5, hfr5⟩)
  clear d0 d1 d2 d3 d4 d5
  have EX := Lib.hid (wexc_any w5 hst5)
  have hfin := HB4.out.trans (hfr5.below hwg)
  obtain ⟨v5, k1, k2, -, -⟩ := hst5
  have c5 : w5.cell? ⟨w3.heap.size, 0, none⟩ = some v5 := cell_blk k1 rfl
  obtain ⟨ao, cap, rfl, -, -⟩ := wown_form k2
  have hcv := conv_owns (P := Tryz.prog) w5 56 9 5 (w3.heap.size + 1) l5.length _ l5 k2 Tryz.underlying56 Tryz.underlying5 Tryz.underlying9
  have HFIN := Lib.hid hfin
  clear hfin hfr5 k1 k2 hlen5
  by_cases hov : 65536 < l5.length
  ·rw [decide_eq_true hov] at EX
   have hlong := hout5.over hov
   obtain ⟨e1, e2⟩ := jse_long HV.out (by simpa using hlong)
   have HE := Lib.hid (And.intro e1 e2)
   clear e1 e2 hlong hout5 hov
   go_wp2_with (go_at_call 64; (with_reducible refine (EX.out).mono ?_); rintro e w6 ⟨rfl, rfl⟩)
   go_ret2
   exact ⟨by rw [HE.out.1, HE.out.2]; rfl, HFIN.out⟩
  ·rw [decide_eq_false hov] at EX
   have he := hout5.fits hov
   have hnl : ¬ 65536 < (writeN 8 x).length := by rw [he] at hov; simpa using hov
   obtain ⟨e1, e2⟩ := jse_good HV.out hnl
   have HE := Lib.hid (And.intro e1 e2)
   have HEQ := Lib.hid he
   clear e1 e2 hnl hout5 hov he
   go_wp2_with (go_at_call 64; (with_reducible refine (EX.out).mono ?_); rintro e w6 ⟨rfl, rfl⟩)
   go_ret2
   exact ⟨by rw [HE.out.1, HE.out.2, HEQ.out]; rfl, HFIN.out⟩
end Go.Proofs.YtdppdonaojdceaaGreatDoor
