/- Encode, the program's own. -/
import Derived.Test.YtgkbijgknacccaaDoorCwn
import Derived.Test.YtgkbijgknacccaaDoorNvw
namespace Go.Proofs.YtgkbijgknacccaaDoor
open Go Go.ChangeShapes Go.WideShapes Go.ChangeAt Go.RowKit
set_option linter.unusedVariables false
set_option linter.unusedSimpArgs false

theorem WSc.fresh {TW TB : TypeId} (w : World) : WSc TW TB (w.heap.size + 1) (w.alloc (.cells #[.slice none 0 0] TW)) w.heap.size [] :=
  ⟨.slice none 0 0, heap_alloc_new w _, World.ownsRow_nil _ _ _ _, by omega⟩
set_option maxHeartbeats 1600000 in
set_option maxRecDepth 100000 in
theorem cenc_any {D : Nat} {S : Nat → Prop} (cs : List Value) (x : ND) (w : World) (h : NodeIn D S w cs x) (hS : ∀ b, S b → b < w.heap.size) (hl : lowV D x) (hw : validN 8 x = true → numsB 8 x = true) (hT : Utab w) : Calls Tryd.prog 14 #[.agg cs.toArray] w (CEncPost x w) := by
  obtain ⟨a1, l1, c1, a2, l2, c2, rfl⟩ := h.slices
  have b1 := (Below.refl w.heap.size w).alloc (o := .cells #[.int .i64 x.kind, .bool x.bool, .int .i64 x.num, .string x.text, .slice a1 l1 c1, .slice a2 l2 c2] 26) (Nat.le_refl _)
  have hr1 := heap_alloc_new w (.cells #[.int .i64 x.kind, .bool x.bool, .int .i64 x.num, .string x.text, .slice a1 l1 c1, .slice a2 l2 c2] 26)
  obtain ⟨w1, hw1⟩ : ∃ W, W = w.alloc (.cells #[.int .i64 x.kind, .bool x.bool, .int .i64 x.num, .string x.text, .slice a1 l1 c1, .slice a2 l2 c2] 26) := ⟨_, rfl⟩
  rw [← hw1] at b1 hr1
  have ck := six_of hr1
  have V := Lib.hid (isvalidV_any _ x w1 (h.same fun b hb => b1.block b (hS b hb)) (fun b hb => Nat.lt_of_lt_of_le (hS b hb) b1.size) hl (hT.below b1))
  have B1 := Lib.hid b1
  have R1 := Lib.hid hr1
  have HN := Lib.hid h
  have HS := Lib.hid hS
  have HW := Lib.hid hw
  clear h hS hl hw hT b1 hr1
  cases hv : validN 8 x with
  | false =>
    rw [hv] at V
    obtain ⟨e1, e2⟩ := cse_bad hv
    have HE := Lib.hid (And.intro e1 e2)
    clear hv e1 e2
    go_enter Tryd.func14, Tryd.ntmps14
    go_upto_region 1 with fail
    rw [← hw1]
    clear hw1
    go_wp2_with (go_at_call 26; (with_reducible refine (V.out).mono ?_); rintro e w2 ⟨rfl, hb2⟩)
    go_ret2
    exact ⟨by rw [HE.out.1, HE.out.2]; rfl, B1.out.trans (hb2.mono B1.out.size)⟩
  | true =>
    rw [hv] at V
    have hnu := HW.out hv
    have HV := Lib.hid hv
    have HNU := Lib.hid hnu
    clear hv hnu
    go_enter Tryd.func14, Tryd.ntmps14
    go_upto_region 1 with fail
    rw [← hw1]
    clear hw1
    go_upto_region 4 with (go_at_call 26; (with_reducible refine (V.out).mono ?_); rintro e w2 ⟨rfl, hb2⟩)
    have b3 := (Below.refl w2.heap.size w2).alloc (o := .cells #[.slice none 0 0] 55) (Nat.le_refl _)
    have st3 := WSc.fresh (TW := 55) (TB := 5) w2
    have hB2 := B1.out.trans (hb2.mono B1.out.size)
    have hB3 := hB2.trans (b3.mono hB2.size)
    have hz3 : (w2.alloc (.cells #[.slice none 0 0] 55)).heap.size = w2.heap.size + 1 := by simp
    have hr3 := (b3.block _ (Nat.lt_of_lt_of_le (lt_of_block R1.out) hb2.size)).trans ((hb2.block _ (lt_of_block R1.out)).trans R1.out)
    generalize w2.alloc (.cells #[.slice none 0 0] 55) = w3 at b3 st3 hB3 hz3 hr3 ⊢
    obtain ⟨g, hg⟩ : ∃ g, g = w2.heap.size := ⟨_, rfl⟩
    have hwg : w.heap.size ≤ g := by rw [hg]; exact hB2.size
    have ck3 := six_of hr3
    have WN := Lib.hid (wnode_any 8 D S _ x w3 (g + 1) g [] (by rw [hg]; exact st3) (by omega) (Nat.zero_le _) (HN.out.same fun b hb => hB3.block b (HS.out b hb)) (fun b hb => Nat.lt_of_lt_of_le (HS.out b hb) hwg) HV.out HNU.out)
    rw [← hg]
    have HB3 := Lib.hid hB3
    clear b3 st3 hz3 hr3 hg hB2 hB3 hb2 ck
    go_upto_region 5 with (go_at_call 27; (with_reducible refine (WN.out).mono ?_); rintro e w5 ⟨rfl, l5, hst5, hout5, hlen5, hfr5⟩)
    have EX := Lib.hid (cexc_any w5 hst5)
    have hB5 := HB3.out.trans (hfr5.1.mono hwg)
    have HB5 := Lib.hid hB5
    have HO5 := Lib.hid hout5
    by_cases hov : 65536 < l5.length
    · obtain ⟨e1, e2⟩ := cse_long HV.out (by have := hout5.over hov; simpa using this)
      have HE := Lib.hid (And.intro e1 e2)
      rw [decide_eq_true hov] at EX
      clear hst5 hfr5 e1 e2 hB5 hout5 hov
      go_wp2_with (go_at_call 28; (with_reducible refine (EX.out).mono ?_); rintro e w6 ⟨rfl, hww⟩; (replace hww := hww.symm); subst hww)
      go_ret2
      exact ⟨by rw [HE.out.1, HE.out.2]; rfl, HB5.out⟩
    · have hfit := hout5.fits hov
      rw [List.nil_append] at hfit
      obtain ⟨e1, e2⟩ := cse_good HV.out (by rw [← hfit]; exact hov)
      rw [← hfit] at e1
      have HE := Lib.hid (And.intro e1 e2)
      rw [decide_eq_false hov] at EX
      obtain ⟨v5, k1, k2, -⟩ := hst5
      have c5 : w5.cell? ⟨g, 0, none⟩ = some v5 := cell_blk k1 rfl
      obtain ⟨ao, cap, rfl, -, -⟩ := wown_form k2
      have hcv := conv_owns (P := Tryd.prog) w5 53 9 5 (g + 1) l5.length _ l5 k2 Tryd.underlying53 Tryd.underlying5 Tryd.underlying9
      clear k1 k2 hfr5 e1 e2 hfit hB5 hout5 hov
      go_wp2_with (go_at_call 28; (with_reducible refine (EX.out).mono ?_); rintro e w6 ⟨rfl, hww⟩; (replace hww := hww.symm); subst hww)
      go_ret2
      exact ⟨by rw [HE.out.1, HE.out.2]; rfl, HB5.out⟩
end Go.Proofs.YtgkbijgknacccaaDoor
