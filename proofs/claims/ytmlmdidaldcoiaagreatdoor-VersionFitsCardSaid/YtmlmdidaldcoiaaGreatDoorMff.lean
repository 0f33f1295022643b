/- Encode, the program's own. -/
import Derived.Test.YtmlmdidaldcoiaaGreatDoorCwn
import Derived.Test.YtmlmdidaldcoiaaGreatDoorJrnu
import Derived.Test.YtmlmdidaldcoiaaGreatDoorJsm
import Derived.Test.YtmlmdidaldcoiaaGreatDoorMen
import Derived.Test.YtmlmdidaldcoiaaGreatDoorMfb
import Derived.BigQuiet
import Derived.Deep.QuietTactic
import Derived.Laws.BitsAllLaws
import Derived.Lib.EndianBits
import Derived.Deep.CutRange
namespace Go.Proofs.YtmlmdidaldcoiaaGreatDoor
open Go Go.ChangeShapes Go.WideShapes Go.ChangeAt Go.RowKit
set_option linter.unusedVariables false
set_option linter.unusedSimpArgs false

set_option maxHeartbeats 1600000 in
set_option maxRecDepth 100000 in
theorem cenc_any {D : Nat} {S : Nat → Prop} (cs : List Value) (x : ND) (w : World) (h : NodeIn D S w cs x) (hS : ∀ b, S b → b < w.heap.size) (hl : lowV D x) (hw : validN 8 x = true → numsB 8 x = true) (hT : Utab w) : Calls Tryz.prog 102 #[.agg cs.toArray] w (CEncPost x w) := by
 obtain ⟨a1, l1, c1, a2, l2, c2, rfl⟩ := h.slices
 have b1 := (Below.refl w.heap.size w).alloc (o := .cells #[.int .i64 x.kind, .bool x.bool, .int .i64 x.num, .string x.text, .slice a1 l1 c1, .slice a2 l2 c2] 30) (Nat.le_refl _)
 have hr1 := heap_alloc_new w (.cells #[.int .i64 x.kind, .bool x.bool, .int .i64 x.num, .string x.text, .slice a1 l1 c1, .slice a2 l2 c2] 30)
 obtain ⟨w1, hw1⟩ : ∃ W, W = w.alloc (.cells #[.int .i64 x.kind, .bool x.bool, .int .i64 x.num, .string x.text, .slice a1 l1 c1, .slice a2 l2 c2] 30) := ⟨_, rfl⟩
 rw [← hw1] at b1 hr1
 have ck := six_of hr1
 have V := Lib.hid (isvalidV_any _ x w1 (h.same fun b hb => b1.block b (hS b hb)) (fun b hb => Nat.lt_of_lt_of_le (hS b hb) b1.size) hl (hT.below b1))
 have B1 := Lib.hid b1
 have R1 := Lib.hid hr1
 have HN := Lib.hid h
 have HS := Lib.hid hS
 have HW := Lib.hid hw
 clear h hS hl hw hT b1 hr1
 cases hv : validN 8 x with
 | false =>
  rw [hv] at V
  obtain ⟨e1, e2⟩ := cse_bad hv
  have HE := Lib.hid (And.intro e1 e2)
  clear hv e1 e2
  go_enter Tryz.func102, Tryz.ntmps102
  go_upto_region 1 with fail
  rw [← hw1]
  clear hw1
  go_wp2_with (go_at_call 22; (with_reducible refine (V.out).mono ?_); rintro e w2 ⟨rfl, hb2⟩)
  go_ret2
  exact ⟨by rw [HE.out.1, HE.out.2]; rfl, B1.out.trans (hb2.mono B1.out.size)⟩
 | true =>
  rw [hv] at V
  have hnu := HW.out hv
  have HV := Lib.hid hv
  have HNU := Lib.hid hnu
  clear hv hnu
  go_enter Tryz.func102, Tryz.ntmps102
  go_upto_region 1 with fail
  rw [← hw1]
  clear hw1
  go_upto_region 4 with (go_at_call 22; (with_reducible refine (V.out).mono ?_); rintro e w2 ⟨rfl, hb2⟩)
  have b3 := (Below.refl w2.heap.size w2).alloc (o := .cells #[.slice none 0 0] 163) (Nat.le_refl _)
  have st3 := WSc.fresh (TW := 163) (TB := 5) w2
  have hB2 := B1.out.trans (hb2.mono B1.out.size)
  have hB3 := hB2.trans (b3.mono hB2.size)
  have hz3 : (w2.alloc (.cells #[.slice none 0 0] 163)).heap.size = w2.heap.size + 1 := by simp
  have hr3 := (b3.block _ (Nat.lt_of_lt_of_le (lt_of_block R1.out) hb2.size)).trans ((hb2.block _ (lt_of_block R1.out)).trans R1.out)
  generalize w2.alloc (.cells #[.slice none 0 0] 163) = w3 at b3 st3 hB3 hz3 hr3 ⊢
  obtain ⟨g, hg⟩ : ∃ g, g = w2.heap.size := ⟨_, rfl⟩
  have hwg : w.heap.size ≤ g := by rw [hg]; exact hB2.size
  have ck3 := six_of hr3
  have WN := Lib.hid (wnode_any 8 D S _ x w3 (g + 1) g [] (by rw [hg]; exact st3) (by omega) (Nat.zero_le _) (HN.out.same fun b hb => hB3.block b (HS.out b hb)) (fun b hb => Nat.lt_of_lt_of_le (HS.out b hb) hwg) HV.out HNU.out)
  rw [← hg]
  have HB3 := Lib.hid hB3
  clear b3 st3 hz3 hr3 hg hB2 hB3 hb2 ck
  go_upto_region 5 with (go_at_call 130; (with_reducible refine (WN.out).mono ?_); rintro e w5 ⟨rfl, l5, hst5, hout5, hlen5, hfr5⟩)
  have EX := Lib.hid (cexc_any w5 hst5)
  have hB5 := HB3.out.trans (hfr5.1.mono hwg)
  have HB5 := Lib.hid hB5
  have HO5 := Lib.hid hout5
  by_cases hov : 65536 < l5.length
  ·obtain ⟨e1, e2⟩ := cse_long HV.out (by have := hout5.over hov; simpa using this)
   have HE := Lib.hid (And.intro e1 e2)
   rw [decide_eq_true hov] at EX
   clear hst5 hfr5 e1 e2 hB5 hout5 hov
   go_wp2_with (go_at_call 131; (with_reducible refine (EX.out).mono ?_); rintro e w6 ⟨rfl, hww⟩; (replace hww := hww.symm); subst hww)
   go_ret2
   exact ⟨by rw [HE.out.1, HE.out.2]; rfl, HB5.out⟩
  ·have hfit := hout5.fits hov
   rw [List.nil_append] at hfit
   obtain ⟨e1, e2⟩ := cse_good HV.out (by rw [← hfit]; exact hov)
   rw [← hfit] at e1
   have HE := Lib.hid (And.intro e1 e2)
   rw [decide_eq_false hov] at EX
   obtain ⟨v5, k1, k2, -⟩ := hst5
   have c5 : w5.cell? ⟨g, 0, none⟩ = some v5 := cell_blk k1 rfl
   obtain ⟨ao, cap, rfl, -, -⟩ := wown_form k2
   have hcv := conv_owns (P := Tryz.prog) w5 54 9 5 (g + 1) l5.length _ l5 k2 Tryz.underlying54 Tryz.underlying5 Tryz.underlying9
   clear k1 k2 hfr5 e1 e2 hfit hB5 hout5 hov
   go_wp2_with (go_at_call 131; (with_reducible refine (EX.out).mono ?_); rintro e w6 ⟨rfl, hww⟩; (replace hww := hww.symm); subst hww)
   go_ret2
   exact ⟨by rw [HE.out.1, HE.out.2]; rfl, HB5.out⟩
end Go.Proofs.YtmlmdidaldcoiaaGreatDoor
/- EncodeAs and DecodeAs over whatever a serialisation's own functions give. -/
namespace Go.Proofs.YtmlmdidaldcoiaaGreatDoor
open Go Go.ChangeShapes Go.WideShapes Go.ChangeAt Go.RowKit
set_option linter.unusedVariables false
set_option linter.unusedSimpArgs false

/-- What an Encode gives. -/
def EncW (S : ByteArray) (E : Int) (w : World) (e : Ending) (w' : World) : Prop := e = .returned (.tuple #[.string S, .int .i64 E]) ∧ Below w.heap.size w w'
set_option maxHeartbeats 3200000 in
set_option maxRecDepth 100000 in
theorem encas_at {D : Nat} {Sx : Nat → Prop} (k : Int) (F F2 F3 : Nat) (cs : List Value) (x : ND) (w : World) (S : ByteArray) (E : Int) (h : NodeIn D Sx w cs x) (hF : F = 99 ∨ F = 102 ∨ F = 105) (hk : foR k = [.int .i64 k, .func (.func F) #[] #[], .func (.func F2) #[] #[], .func (.func F3) #[] #[]] ∧ foB k = true)
  (EN : ∀ wx, Below w.heap.size w wx → Calls Tryz.prog F #[.agg cs.toArray] wx (EncW S E wx)) : Calls Tryz.prog 23 #[.int .i64 k, .agg cs.toArray] w (EncW S E w) := by
 obtain ⟨a1, l1, c1, a2, l2, c2, rfl⟩ := h.slices
 have FO := Lib.hid (fun wx : World => foof_any k wx)
 simp only [hk.1, hk.2] at FO
 have b1 := (Below.refl w.heap.size w).alloc (o := .cells #[.int .i64 x.kind, .bool x.bool, .int .i64 x.num, .string x.text, .slice a1 l1 c1, .slice a2 l2 c2] 30) (Nat.le_refl _)
 have k1 := heap_alloc_new w (.cells #[.int .i64 x.kind, .bool x.bool, .int .i64 x.num, .string x.text, .slice a1 l1 c1, .slice a2 l2 c2] 30)
 clear h hk
 go_enter Tryz.func23, Tryz.ntmps23
 go_upto_region 1 with fail
 generalize w.alloc _ = w1 at b1 k1 ⊢
 go_upto_region 2 with (go_at_call 41; (with_reducible refine (FO.out _).mono ?_); rintro e w2 ⟨rfl, hb2⟩)
 have b3 := (Below.refl w2.heap.size w2).alloc (o := .cells #[.int .i64 k, .func (.func F) #[] #[], .func (.func F2) #[] #[], .func (.func F3) #[] #[]] 76) (Nat.le_refl _)
 have k3 := heap_alloc_new w2 (.cells #[.int .i64 k, .func (.func F) #[] #[], .func (.func F2) #[] #[], .func (.func F3) #[] #[]] 76)
 generalize w2.alloc _ = w3 at b3 k3 ⊢
 have b23 := hb2.trans (b3.mono hb2.size)
 have f1 := six_of ((b23.block _ (lt_of_block k1)).trans k1)
 have f3 := four_of k3
 have hB := b1.trans (b23.mono b1.size)
 have EN3 := Lib.hid (EN w3 hB)
 have HB := Lib.hid hB
 generalize w2.heap.size = g3 at f3 ⊢
 clear EN FO k1 k3 b1 hb2 b3 b23 hB
 unfold EncW at EN3
 rcases hF with rfl | rfl | rfl <;> (
  go_wp2_with ((with_reducible refine (EN3.out).mono ?_); rintro e w4 ⟨rfl, hb4⟩)
  refine bodyPost_ret (v := .tuple #[.string S, .int .i64 E]) ?_ rfl ?_
  ·simp [results, Tryz.results23, go_sem]
  ·exact ⟨rfl, HB.out.trans (hb4.mono HB.out.size)⟩)
set_option maxHeartbeats 3200000 in
set_option maxRecDepth 100000 in
theorem encas_no {D : Nat} {Sx : Nat → Prop} (k : Int) (cs : List Value) (x : ND) (w : World) (h : NodeIn D Sx w cs x) (hk : k < 1 ∨ 3 < k) : Calls Tryz.prog 23 #[.int .i64 k, .agg cs.toArray] w (EncW ⟨#[]⟩ 2 w) := by
 obtain ⟨a1, l1, c1, a2, l2, c2, rfl⟩ := h.slices
 have FO := Lib.hid (fun wx : World => foof_any k wx)
 simp only [(foof_none hk).1, (foof_none hk).2] at FO
 have b1 := (Below.refl w.heap.size w).alloc (o := .cells #[.int .i64 x.kind, .bool x.bool, .int .i64 x.num, .string x.text, .slice a1 l1 c1, .slice a2 l2 c2] 30) (Nat.le_refl _)
 clear h hk
 go_enter Tryz.func23, Tryz.ntmps23
 go_upto_region 1 with fail
 generalize w.alloc _ = w1 at b1 ⊢
 go_upto_region 2 with (go_at_call 41; (with_reducible refine (FO.out _).mono ?_); rintro e w2 ⟨rfl, hb2⟩)
 have b3 := (Below.refl w2.heap.size w2).alloc (o := .cells #[.int .i64 0, .nilFunc, .nilFunc, .nilFunc] 76) (Nat.le_refl _)
 generalize w2.alloc _ = w3 at b3 ⊢
 have b23 := hb2.trans (b3.mono hb2.size)
 go_wp2
 refine bodyPost_ret (v := .tuple #[.string ⟨#[]⟩, .int .i64 2]) ?_ rfl ?_
 ·simp [results, Tryz.results23, go_sem]
 ·exact ⟨rfl, b1.trans (b23.mono b1.size)⟩
end Go.Proofs.YtmlmdidaldcoiaaGreatDoor
/- The three serialisations by their numbers, the program's own: serialisationOf, EncodeAs, DecodeAs, Guess. -/
namespace Go.Proofs.YtmlmdidaldcoiaaGreatDoor
open Go Go.ChangeShapes Go.WideShapes Go.ChangeAt Go.RowKit
set_option linter.unusedVariables false
set_option linter.unusedSimpArgs false

/-- The bytes of a node in a serialisation, and the error. -/
def foS (k : Int) (x : ND) : ByteArray := if k = 1 then jsS x else if k = 2 then csS x else if k = 3 then mpS x else ⟨#[]⟩
def foE (k : Int) (x : ND) : Int := if k = 1 then jsE x else if k = 2 then csE x else if k = 3 then mpE x else 2
/-- The tables that the three read. -/
structure Ftab (w : World) : Prop where
 u : Utab w
 i : Itab w
 e : EVars w
 s : Scl w
theorem Ftab.below {w w' : World} (h : Ftab w) (hb : Below w.heap.size w w') : Ftab w' := ⟨h.u.below hb, h.i.below hb, h.e.below hb, h.s.to hb⟩
theorem Ftab.p {w : World} (h : Ftab w) : Ptab w := ⟨h.u, h.s⟩
theorem fo_split (k : Int) : k = 1 ∨ k = 2 ∨ k = 3 ∨ (k < 1 ∨ 3 < k) := by omega
theorem foS_none {k : Int} (x : ND) (h : k < 1 ∨ 3 < k) : foS k x = ⟨#[]⟩ ∧ foE k x = 2 := by
 unfold foS foE
 exact ⟨by rw [if_neg (by omega), if_neg (by omega), if_neg (by omega)], by rw [if_neg (by omega), if_neg (by omega), if_neg (by omega)]⟩
theorem encas_any {D : Nat} {S : Nat → Prop} (k : Int) (cs : List Value) (x : ND) (w : World) (h : NodeIn D S w cs x) (hS : ∀ b, S b → b < w.heap.size) (hl : lowV D x) (hw : validN 8 x = true → numsB 8 x = true) (hT : Ftab w) : Calls Tryz.prog 23 #[.int .i64 k, .agg cs.toArray] w (EncW (foS k x) (foE k x) w) := by
 have h' : ∀ wx, Below w.heap.size w wx → NodeIn D S wx cs x := fun wx hb => h.same fun b q => hb.block b (hS b q)
 have hS' : ∀ wx, Below w.heap.size w wx → ∀ b, S b → b < wx.heap.size := fun wx hb b q => Nat.lt_of_lt_of_le (hS b q) hb.size
 rcases fo_split k with rfl | rfl | rfl | hk
 ·exact encas_at 1 _ _ _ cs x w _ _ h (.inl rfl) ⟨rfl, rfl⟩ fun wx hb => jenc_any cs x wx (h' wx hb) (hS' wx hb) hl hw (hT.below hb).u (hT.below hb).i
 ·exact encas_at 2 _ _ _ cs x w _ _ h (.inr (.inl rfl)) ⟨rfl, rfl⟩ fun wx hb => cenc_any cs x wx (h' wx hb) (hS' wx hb) hl hw (hT.below hb).u
 ·exact encas_at 3 _ _ _ cs x w _ _ h (.inr (.inr rfl)) ⟨rfl, rfl⟩ fun wx hb => mpenc_any cs x wx (h' wx hb) (hS' wx hb) hl hw (hT.below hb).p
 ·rw [(foS_none x hk).1, (foS_none x hk).2]
  exact encas_no k cs x w h hk
/-- What is known of the kit's nodes. -/
structure KitF (x : ND) : Prop where
 j : KitJ x
 c : KitC x
 m : KitM x
theorem KitF.valid {x : ND} (h : KitF x) : validN 8 x = true := h.j.valid
theorem KitF.nums {x : ND} (h : KitF x) : numsB 8 x = true := h.j.nums
theorem KitF.err {x : ND} (h : KitF x) {k : Int} (h1 : 1 ≤ k) (h3 : k ≤ 3) : foE k x = 0 := by
 rcases (by omega : k = 1 ∨ k = 2 ∨ k = 3) with rfl | rfl | rfl
 ·exact h.j.err
 ·exact h.c.err
 ·exact h.m.err
theorem KitF.ofc {d : Nat} {x : ND} (hd : d ≤ 4) (h : validW d x = true) (hc : costN d x ≤ 65536) : KitF x := ⟨KitJ.ofc hd h hc, KitC.ofc hd h hc, KitM.ofc hd h hc⟩
end Go.Proofs.YtmlmdidaldcoiaaGreatDoor
/- EncodeAs and DecodeAs of the document over whatever a serialisation's own functions give. -/
namespace Go.Proofs.YtmlmdidaldcoiaaGreatDoor
open Go Go.ChangeShapes Go.WideShapes Go.ChangeAt Go.RowKit
set_option linter.unusedVariables false
set_option linter.unusedSimpArgs false

theorem ne_lit {k z : Int} (h : k ≠ z) : (k == z) = false := by simpa using h
set_option maxHeartbeats 3200000 in
set_option maxRecDepth 100000 in
theorem rencas_at {D : Nat} {Sx : Nat → Prop} (k : Int) (F : Nat) (cs : List Value) (x : ND) (w : World) (S : ByteArray) (E : Int) (h : NodeIn D Sx w cs x) (hF : k = 1 ∧ F = 48 ∨ k = 2 ∧ F = 49 ∨ k = 3 ∧ F = 50)
  (EN : ∀ wx, Below w.heap.size w wx → Calls Tryz.prog F #[.agg cs.toArray] wx (EncW S E wx)) : Calls Tryz.prog 30 #[.int .i64 k, .agg cs.toArray] w (EncW S E w) := by
 obtain ⟨a1, l1, c1, a2, l2, c2, rfl⟩ := h.slices
 have b1 := (Below.refl w.heap.size w).alloc (o := .cells #[.int .i64 x.kind, .bool x.bool, .int .i64 x.num, .string x.text, .slice a1 l1 c1, .slice a2 l2 c2] 30) (Nat.le_refl _)
 have k1 := heap_alloc_new w (.cells #[.int .i64 x.kind, .bool x.bool, .int .i64 x.num, .string x.text, .slice a1 l1 c1, .slice a2 l2 c2] 30)
 clear h
 go_enter Tryz.func30, Tryz.ntmps30
 go_upto_region 1 with fail
 generalize w.alloc _ = w1 at b1 k1 ⊢
 have f1 := six_of k1
 have EN := Lib.hid (EN w1 b1)
 unfold EncW at EN
 clear k1
 rcases hF with ⟨rfl, rfl⟩ | ⟨rfl, rfl⟩ | ⟨rfl, rfl⟩ <;> (
  go_wp2_with ((with_reducible refine (EN.out).mono ?_); rintro e w4 ⟨rfl, hb4⟩)
  refine bodyPost_ret (v := .tuple #[.string S, .int .i64 E]) ?_ rfl ?_
  ·simp [results, Tryz.results30, go_sem]
  ·exact ⟨rfl, b1.trans (hb4.mono b1.size)⟩)
set_option maxHeartbeats 3200000 in
set_option maxRecDepth 100000 in
theorem rencas_no {D : Nat} {Sx : Nat → Prop} (k : Int) (cs : List Value) (x : ND) (w : World) (h : NodeIn D Sx w cs x) (hk : k < 1 ∨ 3 < k) : Calls Tryz.prog 30 #[.int .i64 k, .agg cs.toArray] w (EncW ⟨#[]⟩ 2 w) := by
 obtain ⟨a1, l1, c1, a2, l2, c2, rfl⟩ := h.slices
 have b1 := (Below.refl w.heap.size w).alloc (o := .cells #[.int .i64 x.kind, .bool x.bool, .int .i64 x.num, .string x.text, .slice a1 l1 c1, .slice a2 l2 c2] 30) (Nat.le_refl _)
 have n1 := ne_lit (show k ≠ 1 by omega)
 have n2 := ne_lit (show k ≠ 2 by omega)
 have n3 := ne_lit (show k ≠ 3 by omega)
 clear h hk
 go_enter Tryz.func30, Tryz.ntmps30
 go_upto_region 1 with fail
 generalize w.alloc _ = w1 at b1 ⊢
 go_wp2
 refine bodyPost_ret (v := .tuple #[.string ⟨#[]⟩, .int .i64 2]) ?_ rfl ?_
 ·simp [results, Tryz.results30, go_sem]
 ·exact ⟨rfl, b1⟩
end Go.Proofs.YtmlmdidaldcoiaaGreatDoor
/- Guess: the program's and the document's own. -/
namespace Go.Proofs.YtmlmdidaldcoiaaGreatDoor
open Go Go.ChangeShapes Go.WideShapes Go.ChangeAt Go.RowKit
set_option linter.unusedVariables false
set_option linter.unusedSimpArgs false

def st1 (z : Int) : Bool := z == 123
def st2 (z : Int) : Bool := decide (160 ≤ z) && decide (z ≤ 187)
def st3 (z : Int) : Bool := (decide (128 ≤ z) && decide (z ≤ 143)) || z == 222
end Go.Proofs.YtmlmdidaldcoiaaGreatDoor
/- The document's EncodeAs and DecodeAs; what is guessed of a map's bytes. -/
namespace Go.Proofs.YtmlmdidaldcoiaaGreatDoor
open Go Go.ChangeShapes Go.WideShapes Go.ChangeAt Go.RowKit
set_option linter.unusedVariables false
set_option linter.unusedSimpArgs false

theorem rencas_any {D : Nat} {S : Nat → Prop} (k : Int) (cs : List Value) (x : ND) (w : World) (h : NodeIn D S w cs x) (hS : ∀ b, S b → b < w.heap.size) (K : KitF x) (hl : lowV D x) (hT : Ftab w) : Calls Tryz.prog 30 #[.int .i64 k, .agg cs.toArray] w (EncW (foS k x) (foE k x) w) := by
 have h' : ∀ wx, Below w.heap.size w wx → NodeIn D S wx cs x := fun wx hb => h.same fun b q => hb.block b (hS b q)
 have hS' : ∀ wx, Below w.heap.size w wx → ∀ b, S b → b < wx.heap.size := fun wx hb b q => Nat.lt_of_lt_of_le (hS b q) hb.size
 rcases fo_split k with rfl | rfl | rfl | hk
 ·exact rencas_at 1 _ cs x w _ _ h (.inl ⟨rfl, rfl⟩) fun wx hb => jrenc_any cs x wx (h' wx hb) (hS' wx hb) hl (fun _ => ⟨K.nums, Nat.le_trans K.j.len (by decide)⟩) (hT.below hb).u (hT.below hb).i
 ·exact rencas_at 2 _ cs x w _ _ h (.inr (.inl ⟨rfl, rfl⟩)) fun wx hb => crenc_any cs x wx (h' wx hb) (hS' wx hb) hl (fun _ => ⟨K.nums, Nat.le_trans K.c.len (by decide)⟩) (hT.below hb).u
 ·exact rencas_at 3 _ cs x w _ _ h (.inr (.inr ⟨rfl, rfl⟩)) fun wx hb => mrenc_any cs x wx (h' wx hb) (hS' wx hb) hl (fun _ => ⟨K.nums, Nat.le_trans K.m.len (by decide)⟩) (hT.below hb).u
 ·rw [(foS_none x hk).1, (foS_none x hk).2]
  exact rencas_no k cs x w h hk
end Go.Proofs.YtmlmdidaldcoiaaGreatDoor
