/- Encode, the program's own. -/
import Derived.Test.YtdppdonaojdceaaGreatDoorCpn
import Derived.Test.YtdppdonaojdceaaGreatDoorCwn
import Derived.Test.YtdppdonaojdceaaGreatDoorMkit
import Derived.Test.YtdppdonaojdceaaGreatDoorNvw
namespace Go.Proofs.YtdppdonaojdceaaGreatDoor
open Go Go.ChangeShapes Go.WideShapes Go.ChangeAt Go.RowKit
set_option linter.unusedVariables false
set_option linter.unusedSimpArgs false

set_option maxHeartbeats 1600000 in
set_option maxRecDepth 100000 in
theorem cenc_any {D : Nat} {S : Nat → Prop} (cs : List Value) (x : ND) (w : World) (h : NodeIn D S w cs x) (hS : ∀ b, S b → b < w.heap.size) (hl : lowV D x) (hw : validN 8 x = true → numsB 8 x = true) (hT : Utab w) : Calls Tryz.prog 42 #[.agg cs.toArray] w (CEncPost x w) := by
 obtain ⟨a1, l1, c1, a2, l2, c2, rfl⟩ := h.slices
 have b1 := (Below.refl w.heap.size w).alloc (o := .cells #[.int .i64 x.kind, .bool x.bool, .int .i64 x.num, .string x.text, .slice a1 l1 c1, .slice a2 l2 c2] 30) (Nat.le_refl _)
 have hr1 := heap_alloc_new w (.cells #[.int .i64 x.kind, .bool x.bool, .int .i64 x.num, .string x.text, .slice a1 l1 c1, .slice a2 l2 c2] 30)
 obtain ⟨w1, hw1⟩ : ∃ W, W = w.alloc (.cells #[.int .i64 x.kind, .bool x.bool, .int .i64 x.num, .string x.text, .slice a1 l1 c1, .slice a2 l2 c2] 30) := ⟨_, rfl⟩
 rw [← hw1] at b1 hr1
 have ck := six_of hr1
 have V := Lib.hid (isvalidV_any _ x w1 (h.same fun b hb => b1.block b (hS b hb)) (fun b hb => Nat.lt_of_lt_of_le (hS b hb) b1.size) hl (hT.below b1))
 have B1 := Lib.hid b1
 have R1 := Lib.hid hr1
 have HN := Lib.hid h
 have HS := Lib.hid hS
 have HW := Lib.hid hw
 clear h hS hl hw hT b1 hr1
 cases hv : validN 8 x with
 | false =>
  rw [hv] at V
  obtain ⟨e1, e2⟩ := cse_bad hv
  have HE := Lib.hid (And.intro e1 e2)
  clear hv e1 e2
  go_enter Tryz.func42, Tryz.ntmps42
  go_upto_region 1 with fail
  rw [← hw1]
  clear hw1
  go_wp2_with (go_at_call 31; (with_reducible refine (V.out).mono ?_); rintro e w2 ⟨rfl, hb2⟩)
  go_ret2
  exact ⟨by rw [HE.out.1, HE.out.2]; rfl, B1.out.trans (hb2.mono B1.out.size)⟩
 | true =>
  rw [hv] at V
  have hnu := HW.out hv
  have HV := Lib.hid hv
  have HNU := Lib.hid hnu
  clear hv hnu
  go_enter Tryz.func42, Tryz.ntmps42
  go_upto_region 1 with fail
  rw [← hw1]
  clear hw1
  go_upto_region 4 with (go_at_call 31; (with_reducible refine (V.out).mono ?_); rintro e w2 ⟨rfl, hb2⟩)
  have b3 := (Below.refl w2.heap.size w2).alloc (o := .cells #[.slice none 0 0] 92) (Nat.le_refl _)
  have st3 := WSc.fresh (TW := 92) (TB := 5) w2
  have hB2 := B1.out.trans (hb2.mono B1.out.size)
  have hB3 := hB2.trans (b3.mono hB2.size)
  have hz3 : (w2.alloc (.cells #[.slice none 0 0] 92)).heap.size = w2.heap.size + 1 := by simp
  have hr3 := (b3.block _ (Nat.lt_of_lt_of_le (lt_of_block R1.out) hb2.size)).trans ((hb2.block _ (lt_of_block R1.out)).trans R1.out)
  generalize w2.alloc (.cells #[.slice none 0 0] 92) = w3 at b3 st3 hB3 hz3 hr3 ⊢
  obtain ⟨g, hg⟩ : ∃ g, g = w2.heap.size := ⟨_, rfl⟩
  have hwg : w.heap.size ≤ g := by rw [hg]; exact hB2.size
  have ck3 := six_of hr3
  have WN := Lib.hid (wnode_any 8 D S _ x w3 (g + 1) g [] (by rw [hg]; exact st3) (by omega) (Nat.zero_le _) (HN.out.same fun b hb => hB3.block b (HS.out b hb)) (fun b hb => Nat.lt_of_lt_of_le (HS.out b hb) hwg) HV.out HNU.out)
  rw [← hg]
  have HB3 := Lib.hid hB3
  clear b3 st3 hz3 hr3 hg hB2 hB3 hb2 ck
  go_upto_region 5 with (go_at_call 68; (with_reducible refine (WN.out).mono ?_); rintro e w5 ⟨rfl, l5, hst5, hout5, hlen5, hfr5⟩)
  have EX := Lib.hid (cexc_any w5 hst5)
  have hB5 := HB3.out.trans (hfr5.1.mono hwg)
  have HB5 := Lib.hid hB5
  have HO5 := Lib.hid hout5
  by_cases hov : 65536 < l5.length
  ·obtain ⟨e1, e2⟩ := cse_long HV.out (by have := hout5.over hov; simpa using this)
   have HE := Lib.hid (And.intro e1 e2)
   rw [decide_eq_true hov] at EX
   clear hst5 hfr5 e1 e2 hB5 hout5 hov
   go_wp2_with (go_at_call 69; (with_reducible refine (EX.out).mono ?_); rintro e w6 ⟨rfl, hww⟩; (replace hww := hww.symm); subst hww)
   go_ret2
   exact ⟨by rw [HE.out.1, HE.out.2]; rfl, HB5.out⟩
  ·have hfit := hout5.fits hov
   rw [List.nil_append] at hfit
   obtain ⟨e1, e2⟩ := cse_good HV.out (by rw [← hfit]; exact hov)
   rw [← hfit] at e1
   have HE := Lib.hid (And.intro e1 e2)
   rw [decide_eq_false hov] at EX
   obtain ⟨v5, k1, k2, -⟩ := hst5
   have c5 : w5.cell? ⟨g, 0, none⟩ = some v5 := cell_blk k1 rfl
   obtain ⟨ao, cap, rfl, -, -⟩ := wown_form k2
   have hcv := conv_owns (P := Tryz.prog) w5 56 9 5 (g + 1) l5.length _ l5 k2 Tryz.underlying56 Tryz.underlying5 Tryz.underlying9
   clear k1 k2 hfr5 e1 e2 hfit hB5 hout5 hov
   go_wp2_with (go_at_call 69; (with_reducible refine (EX.out).mono ?_); rintro e w6 ⟨rfl, hww⟩; (replace hww := hww.symm); subst hww)
   go_ret2
   exact ⟨by rw [HE.out.1, HE.out.2]; rfl, HB5.out⟩
end Go.Proofs.YtdppdonaojdceaaGreatDoor
/- Decode, the program's own. -/
namespace Go.Proofs.YtdppdonaojdceaaGreatDoor
open Go Go.ChangeShapes Go.WideShapes Go.ChangeAt Go.RowKit
set_option linter.unusedVariables false
set_option linter.unusedSimpArgs false

/-- Nothing was found. -/
theorem cpdec_none {s : ByteArray} {w wx : World} (hb : Below w.heap.size w wx) (hV : CDecIs s nd0 4) :
  CDecPost s w (.returned (.tuple #[.agg #[.int .i64 0, .bool false, .int .i64 0, .string ⟨#[]⟩, .slice none 0 0, .slice none 0 0], .int .i64 4])) (set6 wx w.heap.size (.int .i64 0) (.bool false) (.int .i64 0) (.string ⟨#[]⟩) (.slice none 0 0) (.slice none 0 0)) := by
 have hgs := grown_set6 wx w.heap.size (.int .i64 0) (.bool false) (.int .i64 0) (.string ⟨#[]⟩) (.slice none 0 0) (.slice none 0 0)
 exact ⟨[.int .i64 0, .bool false, .int .i64 0, .string ⟨#[]⟩, .slice none 0 0, .slice none 0 0], nd0, 4, rfl, (node_leaf _ _ 0 false 0 ⟨#[]⟩ (by decide)).deeper (by decide), hb.grown hgs hb.size (fun k hk => by cases hk; exact Nat.le_refl _), hV⟩
set_option maxHeartbeats 6400000 in
set_option maxRecDepth 100000 in
theorem cdec_any (s : ByteArray) (w : World) (hT : Utab w) : Calls Tryz.prog 43 #[.string s] w (CDecPost s w) := by
 have b0 := (Below.refl w.heap.size w).alloc (o := .cells #[.int .i64 0, .bool false, .int .i64 0, .string ⟨#[]⟩, .slice none 0 0, .slice none 0 0] 30) (Nat.le_refl _)
 have hr0 := heap_alloc_new w (.cells #[.int .i64 0, .bool false, .int .i64 0, .string ⟨#[]⟩, .slice none 0 0, .slice none 0 0] 30)
 have hz0 : w.heap.size < (w.alloc (.cells #[.int .i64 0, .bool false, .int .i64 0, .string ⟨#[]⟩, .slice none 0 0, .slice none 0 0] 30)).heap.size := by simp
 by_cases hl : 65536 < s.size
 ·have hl' : (65536 : Int) < (s.size : Int) := by omega
  have HV : Hid (CDecIs s nd0 4) := Lib.hid (.inr ⟨rfl, rfl, fun y _ _ h => absurd h (by omega)⟩)
  have B0 := Lib.hid b0
  have HR := Lib.hid hr0
  have f1 := free_six hr0
  have c1 := six_of hr0
  clear hl b0 hr0
  go_enter Tryz.func43, Tryz.ntmps43
  go_upto_region 1 with fail
  generalize w.alloc (.cells #[.int .i64 0, .bool false, .int .i64 0, .string ⟨#[]⟩, .slice none 0 0, .slice none 0 0] 30) = w0 at B0 HR f1 c1 ⊢
  go_wp2
  refine bodyPost_ret (v := .tuple #[.agg #[.int .i64 0, .bool false, .int .i64 0, .string ⟨#[]⟩, .slice none 0 0, .slice none 0 0], .int .i64 4]) ?_ ?_ ?_
  rotate_left
  ·rfl
  ·exact cpdec_none B0.out HV.out
  ·obtain ⟨q0, q1, q2, q3, q4, q5⟩ := six_of (six_put HR.out (.int .i64 0) (.bool false) (.int .i64 0) (.string ⟨#[]⟩) (.slice none 0 0) (.slice none 0 0))
   simp only [set6] at q0 q1 q2 q3 q4 q5
   simp [results, Tryz.results43, go_sem, q0, q1, q2, q3, q4, q5]
 ·have hl' : ¬ (65536 : Int) < (s.size : Int) := by omega
  have hsl : s.data.toList.length = s.size := by rw [Array.length_toList]; rfl
  have HT := Lib.hid hT
  have HL := Lib.hid hl
  clear hT hl
  go_enter Tryz.func43, Tryz.ntmps43
  go_upto_region 1 with fail
  obtain ⟨w0, hw0⟩ : ∃ W, W = w.alloc (.cells #[.int .i64 0, .bool false, .int .i64 0, .string ⟨#[]⟩, .slice none 0 0, .slice none 0 0] 30) := ⟨_, rfl⟩
  rw [← hw0] at b0 hr0 hz0
  rw [← hw0]
  clear hw0
  have HR := Lib.hid hr0
  have B0 := Lib.hid b0
  have WD := Lib.hid (fun wx => simple_any wx)
  clear hr0 b0
  go_upto_region 4 with (go_at_call 70; (with_reducible refine (WD.out _).mono ?_); rintro e2 w2 ⟨rfl, hw2, hb2⟩)
  have hb3 := (Below.refl w2.heap.size w2).alloc (o := .cells #[.string s, .map (some w0.heap.size)] 98) (Nat.le_refl _)
  have hg3 := heap_alloc_new w2 (.cells #[.string s, .map (some w0.heap.size)] 98)
  obtain ⟨w3, hw3⟩ : ∃ W, W = w2.alloc (.cells #[.string s, .map (some w0.heap.size)] 98) := ⟨_, rfl⟩
  rw [← hw3] at hb3 hg3
  rw [← hw3]
  clear hw3
  have hp3 : PrC w3 w2.heap.size w0.heap.size s.data.toList := ⟨by rw [bC_of]; exact hg3, hw2.same (hb3.block _ hw2.lt), hw2.lt⟩
  have hB3 := B0.out.trans ((hb2.trans (hb3.mono hb2.size)).mono B0.out.size)
  have hgw : w.heap.size ≤ w2.heap.size := Nat.le_trans B0.out.size hb2.size
  have hg0w : w0.heap.size ≤ w3.heap.size := Nat.le_trans hb2.size hb3.size
  have hr3 := ((hb2.trans (hb3.mono hb2.size)).block _ (lt_of_block HR.out)).trans HR.out
  have ND' : Hid (Calls Tryz.prog 71 #[.pointer (some ⟨w2.heap.size, 0, none⟩), .int .i64 8] w3 (CnPost (CIr 8 s.data.toList) 8 w2.heap.size w0.heap.size s.data.toList w3)) := Lib.hid (cpnode_any 8 (by decide) w2.heap.size w0.heap.size s.data.toList w3 hp3 (by have := HL.out; omega))
  have HB3 := Lib.hid hB3
  have HR3 := Lib.hid hr3
  have hgr : w.heap.size ≠ w2.heap.size := by have := hb2.size; omega
  generalize hgx : w2.heap.size = gx at ND' hgw hgr ⊢
  clear hgx hp3 hw2 hb2 hb3 hg3 hB3 hr3 WD B0 HR
  go_upto_region 5 with (go_at_call 71; (with_reducible refine (ND'.out).mono ?_); rintro e5 w5 ⟨cs, x, ok, r', rfl, hnode, hp5, hg5, hl5, hlt5, hf5, hv5⟩; go_loud ((obtain ⟨a1, l1, c1, a2, l2, c2, hcs⟩ := hnode.slices); subst hcs))
  have hv8 : s.size ≤ 65536 → ∀ y, validN 8 y = true → numsB 8 y = true → writeC 8 y = s.data.toList → ok = true ∧ x = y := fun _ y h1 h2 h3 => by
   have := hv5 y [] ⟨h1, h2, by rw [List.append_nil, h3]⟩
   exact ⟨this.1, this.2.1⟩
  have hB5 : Below w.heap.size w w5 := HB3.out.grown hg5 HB3.out.size (fun k hk => by cases hk; exact hgw)
  have hr5 := keepG hg5 hgr HR3.out
  have b6 := (Below.refl w5.heap.size w5).alloc (o := .cells #[.int .i64 x.kind, .bool x.bool, .int .i64 x.num, .string x.text, .slice a1 l1 c1, .slice a2 l2 c2] 30) (Nat.le_refl _)
  have hn6 := heap_alloc_new w5 (.cells #[.int .i64 x.kind, .bool x.bool, .int .i64 x.num, .string x.text, .slice a1 l1 c1, .slice a2 l2 c2] 30)
  have hnd6 := hnode.same fun b hb => b6.block b hb.2
  have hB6 := hB5.trans (b6.mono hB5.size)
  have hr6 := (b6.block _ (lt_of_block hr5)).trans hr5
  have hz6 : w5.heap.size < (w5.alloc (.cells #[.int .i64 x.kind, .bool x.bool, .int .i64 x.num, .string x.text, .slice a1 l1 c1, .slice a2 l2 c2] 30)).heap.size := by simp
  have hne5 : w.heap.size ≠ w5.heap.size := by have := lt_of_block hr5; omega
  obtain ⟨w6, hw6⟩ : ∃ W, W = w5.alloc (.cells #[.int .i64 x.kind, .bool x.bool, .int .i64 x.num, .string x.text, .slice a1 l1 c1, .slice a2 l2 c2] 30) := ⟨_, rfl⟩
  rw [← hw6] at b6 hn6 hnd6 hB6 hr6 hz6
  rw [← hw6]
  have hz3 : w.heap.size ≤ w3.heap.size := HB3.out.size
  have HV8 := Lib.hid hv8
  have HB6 := Lib.hid hB6
  have HN6 := Lib.hid hnd6
  have HR6 := Lib.hid hr6
  have HZ6 := Lib.hid (And.intro hz6 hz3)
  have hnum8 : numsB 8 x = true := cnumsB_down (by decide) hf5.2
  have hlow9 : lowV 9 x := hf5.1
  have EN := Lib.hid (cenc_any _ x w6 hnd6 (fun b hb => Nat.lt_trans hb.2 hz6) hlow9 (fun _ => hnum8) (HT.out.below hB6))
  have HN8 := Lib.hid hnum8
  clear hw6 hv8 hv5 hB5 hr5 b6 hnd6 hB6 hr6 hz6 hnode hp5 hg5 hf5 hl5 hlt5 HB3 HR3 ND' hnum8 hlow9 HT
  cases ok with
  | false =>
   have HV : Hid (CDecIs s nd0 4) := Lib.hid (.inr ⟨rfl, rfl, fun y h1 h2 h3 h4 => by have := (HV8.out h3 y h1 h2 h4).1; cases this⟩)
   have f1 := free_six HR6.out
   have cz1 := six_of HR6.out
   go_wp2
   refine bodyPost_ret (v := .tuple #[.agg #[.int .i64 0, .bool false, .int .i64 0, .string ⟨#[]⟩, .slice none 0 0, .slice none 0 0], .int .i64 4]) ?_ ?_ ?_
   rotate_left
   ·rfl
   ·exact cpdec_none HB6.out HV.out
   ·obtain ⟨q0, q1, q2, q3, q4, q5⟩ := six_of (six_put HR6.out (.int .i64 0) (.bool false) (.int .i64 0) (.string ⟨#[]⟩) (.slice none 0 0) (.slice none 0 0))
    simp only [set6] at q0 q1 q2 q3 q4 q5
    simp [results, Tryz.results43, go_sem, q0, q1, q2, q3, q4, q5]
  | true =>
   have cn := six_of hn6
   have HN66 := Lib.hid hn6
   clear hn6
   go_upto_region 8 with (go_at_call 42; (with_reducible refine (EN.out).mono ?_); rintro e7 w7 ⟨rfl, hb7⟩)
   have hB7 := HB6.out.trans (hb7.mono HB6.out.size)
   have hr7 := (hb7.block _ (lt_of_block HR6.out)).trans HR6.out
   have hn7 := (hb7.block _ (lt_of_block HN66.out)).trans HN66.out
   have hnd7 := HN6.out.same fun b hb => hb7.block b (Nat.lt_trans hb.2 HZ6.out.1)
   have HB7 := Lib.hid hB7
   have HR7 := Lib.hid hr7
   have HND7 := Lib.hid (And.intro hnd7 hb7.size)
   clear hB7 hr7 hnd7 hb7 EN HN66 cn
   by_cases hbad : csE x ≠ 0 ∨ csS x ≠ s
   ·have HV : Hid (CDecIs s nd0 4) := Lib.hid (.inr ⟨rfl, rfl, fun y h1 h2 h3 h4 => by
     obtain ⟨-, rfl⟩ := HV8.out h3 y h1 h2 h4
     have hlen : ¬ 65536 < (writeC 8 x).length := by rw [h4, hsl]; omega
     obtain ⟨g1, g2⟩ := cse_good h1 hlen
     rcases hbad with h | h
     ·exact h g2
     ·apply h; rw [g1, h4, bC_of]⟩)
    clear hn7
    by_cases hE0 : csE x = 0
    ·have hS0 : csS x ≠ s := hbad.resolve_left (fun h => h hE0)
     have hSb : ((csS x).toList == s.toList) = false := by
      rw [Lib.toList_data, Lib.toList_data]
      exact beq_eq_false_iff_ne.2 fun h => hS0 (by rw [← bC_of (csS x), h, bC_of])
     have hEb : (csE x != 0) = false := by simpa using hE0
     clear hbad
     rw [hE0]
     have f1 := free_six HR7.out
     have cz1 := six_of HR7.out
     go_wp2
     refine bodyPost_ret (v := .tuple #[.agg #[.int .i64 0, .bool false, .int .i64 0, .string ⟨#[]⟩, .slice none 0 0, .slice none 0 0], .int .i64 4]) ?_ ?_ ?_
     rotate_left
     ·rfl
     ·exact cpdec_none HB7.out HV.out
     ·obtain ⟨q0, q1, q2, q3, q4, q5⟩ := six_of (six_put HR7.out (.int .i64 0) (.bool false) (.int .i64 0) (.string ⟨#[]⟩) (.slice none 0 0) (.slice none 0 0))
      simp only [set6] at q0 q1 q2 q3 q4 q5
      simp [results, Tryz.results43, go_sem, q0, q1, q2, q3, q4, q5]
    ·have hEb : (csE x != 0) = true := by simpa using hE0
     clear hbad
     have f1 := free_six HR7.out
     have cz1 := six_of HR7.out
     go_wp2
     refine bodyPost_ret (v := .tuple #[.agg #[.int .i64 0, .bool false, .int .i64 0, .string ⟨#[]⟩, .slice none 0 0, .slice none 0 0], .int .i64 4]) ?_ ?_ ?_
     rotate_left
     ·rfl
     ·exact cpdec_none HB7.out HV.out
     ·obtain ⟨q0, q1, q2, q3, q4, q5⟩ := six_of (six_put HR7.out (.int .i64 0) (.bool false) (.int .i64 0) (.string ⟨#[]⟩) (.slice none 0 0) (.slice none 0 0))
      simp only [set6] at q0 q1 q2 q3 q4 q5
      simp [results, Tryz.results43, go_sem, q0, q1, q2, q3, q4, q5]
   ·have hE0 : csE x = 0 := Classical.byContradiction fun h => hbad (.inl h)
    have hS0 : csS x = s := Classical.byContradiction fun h => hbad (.inr h)
    have HV : Hid (CDecIs s x 0) := Lib.hid (by
     have hv : validN 8 x = true := by
      cases q : validN 8 x with
      | true => rfl
      | false => rw [(cse_bad q).2] at hE0; cases hE0
     have hlen : ¬ 65536 < (writeC 8 x).length := fun q => by rw [(cse_long hv q).2] at hE0; cases hE0
     have hw : writeC 8 x = s.data.toList := by rw [← hS0, (cse_good hv hlen).1, bC_data]
     exact .inl ⟨rfl, hv, HN8.out, hw, by rw [hw, hsl] at hlen; omega⟩)
    clear hbad
    rw [hE0, hS0]
    have f1 := free_six HR7.out
    have cz1 := six_of HR7.out
    have cn := six_of hn7
    go_wp2
    refine bodyPost_ret (v := .tuple #[.agg #[.int .i64 x.kind, .bool x.bool, .int .i64 x.num, .string x.text, .slice a1 l1 c1, .slice a2 l2 c2], .int .i64 0]) ?_ ?_ ?_
    rotate_left
    ·rfl
    ·have hgs := grown_set6 w7 w.heap.size (.int .i64 x.kind) (.bool x.bool) (.int .i64 x.num) (.string x.text) (.slice a1 l1 c1) (.slice a2 l2 c2)
     refine ⟨[.int .i64 x.kind, .bool x.bool, .int .i64 x.num, .string x.text, .slice a1 l1 c1, .slice a2 l2 c2], x, 0, rfl, ?_, HB7.out.grown hgs HB7.out.size (fun k hk => by cases hk; exact Nat.le_refl _), HV.out⟩
     have hz := HZ6.out
     have hz7 := HND7.out.2
     have hr := lt_of_block HR7.out
     exact (HND7.out.1.same fun b hb => hgs.block b (by omega) (by intro e; have := Option.some.inj e; omega)).mono fun b hb => ⟨by omega, Nat.lt_of_lt_of_le (by omega) hgs.size⟩
    ·obtain ⟨q0, q1, q2, q3, q4, q5⟩ := six_of (six_put HR7.out (.int .i64 x.kind) (.bool x.bool) (.int .i64 x.num) (.string x.text) (.slice a1 l1 c1) (.slice a2 l2 c2))
     simp only [set6] at q0 q1 q2 q3 q4 q5
     simp [results, Tryz.results43, go_sem, q0, q1, q2, q3, q4, q5]
end Go.Proofs.YtdppdonaojdceaaGreatDoor
