/- The dice of version's statements: some version; and the sanity check. -/
import Derived.Test.YtmlmdidaldcoiaaGreatDoorVdf
import Derived.BigQuiet
import Derived.Deep.QuietTactic
namespace Go.Proofs.YtmlmdidaldcoiaaGreatDoor
open Go Go.Maps Go.ChangeShapes Go.WideShapes Go.ChangeAt Go.RowKit
set_option linter.unusedVariables false
set_option linter.unusedSimpArgs false

theorem awkV : vtS ⟨⟨#[75, 69, 82, 73]⟩, 1, 0, 1, 251⟩ = ⟨#[75, 69, 82, 73, 49, 48, 74, 83, 79, 78, 48, 48, 48, 48, 102, 98, 95]⟩ ∧ vtE ⟨⟨#[75, 69, 82, 73]⟩, 1, 0, 1, 251⟩ = 0 := by decide +kernel
set_option maxRecDepth 100000 in
theorem awake9_any (w : World) (hT : DB w) : Calls Tryz.prog 6 #[] w fun e w' => e = .returned (.bool true) ∧ Below w.heap.size w w' := by
 have TX : Hid (Calls Tryz.prog 17 #[.agg #[.string ⟨#[75, 69, 82, 73]⟩, .int .i64 1, .int .i64 0, .int .i64 1, .int .i64 251]] w (TxPostV ⟨⟨#[75, 69, 82, 73]⟩, 1, 0, 1, 251⟩ w)) := Lib.hid (vertext_any ⟨⟨#[75, 69, 82, 73]⟩, 1, 0, 1, 251⟩ w ⟨by unfold wI; decide, by unfold wI; decide, by unfold wI; decide, by unfold wI; decide⟩ hT)
 unfold TxPostV at TX
 rw [awkV.1, awkV.2] at TX
 go_enter Tryz.func6, Tryz.ntmps6
 go_wp2_with (go_at_call 17; (with_reducible refine (TX.out).mono ?_); rintro e w1 ⟨rfl, hb⟩)
 go_ret
 exact ⟨rfl, hb⟩
end Go.Proofs.YtmlmdidaldcoiaaGreatDoor
/- The walk of the statement VersionFits. -/
namespace Go.Proofs.YtmlmdidaldcoiaaGreatDoor
open Go Go.ChangeShapes Go.WideShapes Go.ChangeAt Go.RowKit
set_option linter.unusedVariables false
set_option linter.unusedSimpArgs false

/-- A node that may be fitted. -/
structure NE (w : World) (cs : List Value) (x : ND) : Prop where
 nod : NodeIn 4 (fun b => b < w.heap.size) w cs x
 low : lowN 4 x
 fit : validN 8 x = true → x.kind = 5 → FitOk x
theorem NE.below {w wn : World} {cs : List Value} {x : ND} (h : NE w cs x) (hb : Below w.heap.size w wn) : NE wn cs x :=
 ⟨(h.nod.same fun b q => hb.block b q).mono fun b q => Nat.lt_of_lt_of_le q hb.size, h.low, h.fit⟩
theorem fitOk_map {x : ND} (hm : MapOk 3 x) (hi : ∀ y, y ∈ x.items → validK 3 y = true) (hc : costN 4 x ≤ bndN 4) : FitOk x :=
 ⟨3, by decide, by decide, kitMap_valid (d := 4) (by decide) hm (fun y hy => validK_w (hi y hy)), Nat.le_trans hc (by decide)⟩
theorem fitOk_node {x : ND} (h : validK 3 x = true) : FitOk x := ⟨2, by decide, by decide, validK_w h, Nat.le_trans (validK_cost h) (by decide)⟩
theorem two_nodes {w : World} {g : Nat} {T : TypeId} {l1 l2 : List Value} {x1 x2 : ND} (h : w.heap[g]? = some (.cells (l1 ++ l2).toArray T (0, 0))) (h1 : NE w l1 x1) (h2 : NE w l2 x2) (j : Nat) (hj : j < 2) : ∃ (cs : List Value) (y : ND), (∀ f u, cs[f]? = some u → w.cell? ⟨g, j * 6 + f, none⟩ = some u) ∧ NE w cs y := by
 have e1 : l1.length = 6 := h1.nod.len
 rcases (by omega : j = 0 ∨ j = 1) with rfl | rfl
 ·refine ⟨l1, x1, fun f u hu => ?_, h1⟩
  have hf := lt_of_some hu
  simp [World.cell?, h, List.getElem?_append_left hf, hu]
 ·refine ⟨l2, x2, fun f u hu => ?_, h2⟩
  simp only [World.cell?, h]
  rw [List.getElem?_toArray, List.getElem?_append_right (by omega), e1, show 1 * 6 + f - 6 = f by omega]
  simpa using hu
theorem two_texts {w : World} {g : Nat} {T : TypeId} {S s : ByteArray} (h : w.heap[g]? = some (.cells #[.string S, .string s] T (0, 0))) (j : Nat) (hj : j < 2) : ∃ t : ByteArray, w.cell? ⟨g, j, none⟩ = some (.string t) := by
 rcases (by omega : j = 0 ∨ j = 1) with rfl | rfl <;> exact ⟨_, cell_blk h rfl⟩
theorem two_ints {w : World} {g : Nat} {T : TypeId} {a b : Int} (h : w.heap[g]? = some (.cells #[.int .i64 a, .int .i64 b] T (0, 0))) (ha : wI a) (hb : wI b) (j : Nat) (hj : j < 2) : ∃ z : Int, w.cell? ⟨g, j, none⟩ = some (.int .i64 z) ∧ wI z := by
 rcases (by omega : j = 0 ∨ j = 1) with rfl | rfl
 ·exact ⟨_, cell_blk h rfl, ha⟩
 ·exact ⟨_, cell_blk h rfl, hb⟩
set_option maxHeartbeats 6400000 in
set_option maxRecDepth 100000 in
theorem fits9_walk (a : Option Addr) (len cap : Nat) (zs : List Int) (s : ByteArray) (form : Int) (hform : wI form) (w : World) (hn : NumsB w.heap.size w a len cap zs) (hT : Ftab w) (hD : DB w) :
  Calls Tryz.prog 3 #[.slice a len cap, .string s, .int .i64 form] w fun e w' => e = .returned (.bool true) ∧ Below w.heap.size w w' := by
 have AW := Lib.hid (fun (wx : World) (hb : Below w.heap.size w wx) => awake9_any wx (hD.below hb))
 have LI := Lib.hid (fun wx : World => light_any a len cap wx)
 have HT := Lib.hid hT
 have HD := Lib.hid hD
 have HFm := Lib.hid hform
 have MO : Hid (∀ wx, Calls Tryz.prog 10 #[.int .i64 form, .int .i64 3] wx fun e w' => e = .returned (.int .i64 (form % 3)) ∧ wx = w') := Lib.hid (fun wx => mod_any form 3 wx (by decide) (by decide) hform.1 hform.2)
 have hmod : 0 ≤ form % 3 ∧ form % 3 < 3 := by omega
 have RO := Lib.hid (roll_any a len cap zs w hn)
 clear hn hT hD
 by_cases h500 : (len : Int) ≤ 500
 ·rw [decide_eq_true h500] at LI
  clear h500
  by_cases hs5 : (50 : Int) < (s.size : Int)
  ·clear hform hmod
   go_enter Tryz.func3, Tryz.ntmps3
   go_wp2_with (first
    | (go_at_call 5; (with_reducible refine (LI.out _).mono ?_); rintro e w3 ⟨rfl, rfl⟩)
    | (go_at_call 6; (with_reducible refine (AW.out _ (Below.refl _ _)).mono ?_); rintro e w1 ⟨rfl, hb⟩))
   go_ret
   exact ⟨rfl, hb⟩
  ·clear hform
   go_enter Tryz.func3, Tryz.ntmps3
   go_upto_region 4 with (first
    | (go_at_call 5; (with_reducible refine (LI.out _).mono ?_); rintro e w3 ⟨rfl, rfl⟩)
    | (go_at_call 7; (with_reducible refine (RO.out).mono ?_); rintro e w2 ⟨rfl, hb2, hd2⟩))
   have hg2 := hd2.lt
   go_upto_region 5 with (go_at_call 8; (with_reducible refine (kmap_litk w.heap.size w.heap.size 4 4 rfl (by decide) (by decide) _ hd2).mono ?_); rintro e w4 ⟨⟨cs1, x1, rfl, hx1, hm1, hi1, hvw1, hc1⟩, hg4, hd4⟩; obtain ⟨a1, l1, c1, a2, l2, c2, rfl⟩ := hx1.slices)
   have b5 := (Below.refl w4.heap.size w4).alloc (o := .cells #[.int .i64 x1.kind, .bool x1.bool, .int .i64 x1.num, .string x1.text, .slice a1 l1 c1, .slice a2 l2 c2] 30) (Nat.le_refl _)
   have k5 := heap_alloc_new w4 (.cells #[.int .i64 x1.kind, .bool x1.bool, .int .i64 x1.num, .string x1.text, .slice a1 l1 c1, .slice a2 l2 c2] 30)
   have hB4 : Below w.heap.size w w4 := hb2.grown hg4 hb2.size (fun k hk => by cases hk; exact Nat.le_refl _)
   have hs4 := hg4.size
   have hs2 := hb2.size
   have n5 : NodeIn 4 (fun b => w.heap.size < b ∧ b < (w4.alloc (.cells #[.int .i64 x1.kind, .bool x1.bool, .int .i64 x1.num, .string x1.text, .slice a1 l1 c1, .slice a2 l2 c2] 30)).heap.size) (w4.alloc (.cells #[.int .i64 x1.kind, .bool x1.bool, .int .i64 x1.num, .string x1.text, .slice a1 l1 c1, .slice a2 l2 c2] 30)) [.int .i64 x1.kind, .bool x1.bool, .int .i64 x1.num, .string x1.text, .slice a1 l1 c1, .slice a2 l2 c2] x1 := (hx1.same fun b q => b5.block b q.2).mono fun b q => ⟨by omega, Nat.lt_of_lt_of_le q.2 b5.size⟩
   have L1 := Lib.hid (lowN_of_valid 8 4 x1 ((mapOk_iff hm1.kind).2 (hm1.mono (by decide))))
   have F1 := Lib.hid (fitOk_map hm1 hvw1 hc1)
   have hB5 := hB4.trans (b5.mono hB4.size)
   have hd5 := hd4.go b5
   have hg5 : w.heap.size < w4.heap.size := by omega
   generalize w4.alloc _ = w5 at b5 k5 n5 hB5 hd5 ⊢
   generalize w4.heap.size = g5 at k5 hg5 ⊢
   clear b5 hB4 hx1 hm1 hi1 hvw1 hc1 hg4 hd4 hb2 hd2 hg2 RO LI hs4 hs2
   go_upto_region 6 with (go_at_call 9; (with_reducible refine (knode_litk w.heap.size w.heap.size 3 3 rfl (by decide) (by decide) _ hd5).mono ?_); rintro e w6 ⟨⟨cs2, x2, rfl, hx2, hv2⟩, hg6, hd6⟩; obtain ⟨a5, l5, c5, a6, l6, c6, rfl⟩ := hx2.slices)
   have b7 := (Below.refl w6.heap.size w6).alloc (o := .cells #[.int .i64 x2.kind, .bool x2.bool, .int .i64 x2.num, .string x2.text, .slice a5 l5 c5, .slice a6 l6 c6] 30) (Nat.le_refl _)
   have k7 := heap_alloc_new w6 (.cells #[.int .i64 x2.kind, .bool x2.bool, .int .i64 x2.num, .string x2.text, .slice a5 l5 c5, .slice a6 l6 c6] 30)
   have hB6 : Below w.heap.size w w6 := hB5.grown hg6 hB5.size (fun k hk => by cases hk; exact Nat.le_refl _)
   have k5' := (hg6.block _ (lt_of_block k5) (by intro e; have := Option.some.inj e; omega)).trans k5
   have n6 := nod_grown n5 hg6
   have hk7 := (b7.block _ (lt_of_block k5')).trans k5'
   have hB7 := hB6.trans (b7.mono hB6.size)
   have N1 : NE (w6.alloc (.cells #[.int .i64 x2.kind, .bool x2.bool, .int .i64 x2.num, .string x2.text, .slice a5 l5 c5, .slice a6 l6 c6] 30)) [.int .i64 x1.kind, .bool x1.bool, .int .i64 x1.num, .string x1.text, .slice a1 l1 c1, .slice a2 l2 c2] x1 := ⟨(n6.same fun b q => b7.block b q.2).mono fun b q => Nat.lt_of_lt_of_le q.2 b7.size, L1.out, fun _ _ => F1.out⟩
   have N2 : NE (w6.alloc (.cells #[.int .i64 x2.kind, .bool x2.bool, .int .i64 x2.num, .string x2.text, .slice a5 l5 c5, .slice a6 l6 c6] 30)) [.int .i64 x2.kind, .bool x2.bool, .int .i64 x2.num, .string x2.text, .slice a5 l5 c5, .slice a6 l6 c6] x2 := ⟨((hx2.same fun b q => b7.block b q.2).mono fun b q => Nat.lt_of_lt_of_le q.2 b7.size).deeper (by decide), lowN_of_valid 3 4 x2 (validK_valid hv2), fun _ _ => fitOk_node hv2⟩
   generalize w6.alloc _ = w7 at b7 k7 hk7 hB7 N1 N2 ⊢
   generalize w6.heap.size = g7 at k7 ⊢
   have c5' := six_of hk7
   have c7 := six_of k7
   clear k5 k5' n5 n6 hB5 hB6 hd5 hd6 hg6 hx2 hv2 hk7 k7 b7 hg5 L1 F1
   go_upto_region 7 with fail
   have b8 := (Below.refl w7.heap.size w7).alloc (o := .cells #[.int .i64 x1.kind, .bool x1.bool, .int .i64 x1.num, .string x1.text, .slice a1 l1 c1, .slice a2 l2 c2, .int .i64 x2.kind, .bool x2.bool, .int .i64 x2.num, .string x2.text, .slice a5 l5 c5, .slice a6 l6 c6] 30) (Nat.le_refl _)
   have k8 : (w7.alloc (.cells #[.int .i64 x1.kind, .bool x1.bool, .int .i64 x1.num, .string x1.text, .slice a1 l1 c1, .slice a2 l2 c2, .int .i64 x2.kind, .bool x2.bool, .int .i64 x2.num, .string x2.text, .slice a5 l5 c5, .slice a6 l6 c6] 30)).heap[w7.heap.size]? = some (.cells (([.int .i64 x1.kind, .bool x1.bool, .int .i64 x1.num, .string x1.text, .slice a1 l1 c1, .slice a2 l2 c2] : List Value) ++ ([.int .i64 x2.kind, .bool x2.bool, .int .i64 x2.num, .string x2.text, .slice a5 l5 c5, .slice a6 l6 c6] : List Value)).toArray 30 (0, 0)) := heap_alloc_new w7 (.cells #[.int .i64 x1.kind, .bool x1.bool, .int .i64 x1.num, .string x1.text, .slice a1 l1 c1, .slice a2 l2 c2, .int .i64 x2.kind, .bool x2.bool, .int .i64 x2.num, .string x2.text, .slice a5 l5 c5, .slice a6 l6 c6] 30)
   have hB8 := hB7.trans (b8.mono hB7.size)
   have N1' := N1.below b8
   have N2' := N2.below b8
   generalize w7.alloc _ = w8 at b8 k8 hB8 N1' N2' ⊢
   generalize w7.heap.size = g8 at k8 ⊢
   have HB8 := Lib.hid hB8
   have HE := Lib.hid (fun (wx : World) (hb : Below w8.heap.size w8 wx) (j : Nat) (hj : j < 2) => two_nodes ((hb.block _ (lt_of_block k8)).trans k8) (N1'.below hb) (N2'.below hb) j hj)
   clear c5' c7 b8 k8 hB7 hB8 N1 N2 N1' N2'
   go_loopw [41] (fun i wr => ∃ j : Nat, j ≤ 2 ∧ i = .int .i64 (j : Int) ∧ Below w8.heap.size w8 wr) (fun i _ => 2 - (intOf i).toNat)
   case atStart => exact ⟨0, by omega, rfl, Below.refl _ _⟩
   case round =>
    obtain ⟨j, hj, rfl, hbr⟩ := hrel
    rcases (by omega : j = 2 ∨ j < 2) with rfl | hj2
    ·have hz := HB8.out.trans (hbr.mono HB8.out.size)
     have AW2 := Lib.hid (AW.out wr hz)
     have HZ := Lib.hid hz
     clear hbr hz
     go_wp2_with (go_at_call 6; (with_reducible refine (AW2.out).mono ?_); rintro e w10 ⟨rfl, hb10⟩)
     go_ret
     exact ⟨rfl, HZ.out.trans (hb10.mono HZ.out.size)⟩
    ·have hj2' : (j : Int) < 2 := by omega
     have hj0 : (0 : Int) ≤ (j : Int) := by omega
     obtain ⟨cy, y, hcy, hney⟩ := HE.out wr hbr j hj2
     obtain ⟨p1, q1, r1, p2, q2, r2, rfl⟩ := hney.nod.slices
     have y0 := hcy 0 _ rfl
     have y1 := hcy 1 _ rfl
     have y2 := hcy 2 _ rfl
     have y3 := hcy 3 _ rfl
     have y4 := hcy 4 _ rfl
     have y5 := hcy 5 _ rfl
     rw [Nat.add_zero] at y0
     have HBR := Lib.hid hbr
     have HNE := Lib.hid hney
     clear hcy hney hbr
     go_upto_region 9 with fail
     have b9 := (Below.refl wr.heap.size wr).alloc (o := .cells #[.int .i64 y.kind, .bool y.bool, .int .i64 y.num, .string y.text, .slice p1 q1 r1, .slice p2 q2 r2] 30) (Nat.le_refl _)
     have k9 := heap_alloc_new wr (.cells #[.int .i64 y.kind, .bool y.bool, .int .i64 y.num, .string y.text, .slice p1 q1 r1, .slice p2 q2 r2] 30)
     have N9 := HNE.out.below b9
     have hB9 := HBR.out.trans (b9.mono HBR.out.size)
     generalize wr.alloc _ = w9 at b9 k9 N9 hB9 ⊢
     generalize wr.heap.size = g9 at k9 ⊢
     clear y0 y1 y2 y3 y4 y5 b9 HNE
     go_upto_region 10 with fail
     have b10 := (Below.refl w9.heap.size w9).alloc (o := .cells #[.string s, .string ⟨#[75, 69, 82, 73]⟩] 9) (Nat.le_refl _)
     have k10 := heap_alloc_new w9 (.cells #[.string s, .string ⟨#[75, 69, 82, 73]⟩] 9)
     have K9 := (b10.block _ (lt_of_block k9)).trans k9
     have N10 := N9.below b10
     have hB10 := hB9.trans (b10.mono hB9.size)
     generalize w9.alloc _ = w10 at b10 k10 K9 N10 hB10 ⊢
     generalize w9.heap.size = g10 at k10 ⊢
     have HB10 := Lib.hid hB10
     have HN10 := Lib.hid N10
     have HK9 := Lib.hid K9
     have HP := Lib.hid (fun (wx : World) (hb : Below w10.heap.size w10 wx) (m : Nat) (hm : m < 2) => two_texts ((hb.block _ (lt_of_block k10)).trans k10) m hm)
     clear b10 k10 k9 K9 N9 N10 hB9 hB10
     go_loopw [48] (fun i wr => ∃ m : Nat, m ≤ 2 ∧ i = .int .i64 (m : Int) ∧ Below w10.heap.size w10 wr) (fun i _ => 2 - (intOf i).toNat)
     case atStart => exact ⟨0, by omega, rfl, Below.refl _ _⟩
     case round =>
      obtain ⟨m, hm, rfl, hbr⟩ := hrel
      have HBm := Lib.hid hbr
      rcases (by omega : m = 2 ∨ m < 2) with rfl | hm2
      ·clear hbr
       go_wp2
       go_roundw
       case rel => exact ⟨j + 1, by omega, by go_num, HB10.out.trans (HBm.out.mono HB10.out.size)⟩
       case measure => simp [intOf]; omega
      ·have hm2' : (m : Int) < 2 := by omega
       have hm0 : (0 : Int) ≤ (m : Int) := by omega
       obtain ⟨p, hp⟩ := HP.out _ hbr m hm2
       clear hbr
       go_upto_region 13 with (go_at_call 10; (with_reducible refine (MO.out _).mono ?_); rintro e w11 ⟨rfl, rfl⟩)
       have b12 := (Below.refl wr.heap.size wr).alloc (o := .cells #[.int .i64 form, .int .i64 (1 + form % 3)] 3) (Nat.le_refl _)
       have k12 := heap_alloc_new wr (.cells #[.int .i64 form, .int .i64 (1 + form % 3)] 3)
       have hB12 := HBm.out.trans (b12.mono HBm.out.size)
       generalize wr.alloc _ = w12 at b12 k12 hB12 ⊢
       generalize wr.heap.size = g12 at k12 ⊢
       have HB12 := Lib.hid hB12
       have HQ := Lib.hid (fun (wx : World) (hb : Below w12.heap.size w12 wx) (i : Nat) (hi : i < 2) => two_ints ((hb.block _ (lt_of_block k12)).trans k12) HFm.out (show wI (1 + form % 3) by unfold wI; omega) i hi)
       clear b12 k12 hB12 hp
       go_loopw [58] (fun i wr => ∃ q : Nat, q ≤ 2 ∧ i = .int .i64 (q : Int) ∧ Below w12.heap.size w12 wr) (fun i _ => 2 - (intOf i).toNat)
       case atStart => exact ⟨0, by omega, rfl, Below.refl _ _⟩
       case round =>
        obtain ⟨q, hq, rfl, hbr⟩ := hrel
        have HBq := Lib.hid hbr
        rcases (by omega : q = 2 ∨ q < 2) with rfl | hq2
        ·clear hbr
         go_wp2
         go_roundw
         case rel => exact ⟨m + 1, by omega, by go_num, HB12.out.trans (HBq.out.mono HB12.out.size)⟩
         case measure => simp [intOf]; omega
        ·have hq2' : (q : Int) < 2 := by omega
         have hq0 : (0 : Int) ≤ (q : Int) := by omega
         obtain ⟨k, hk, hkw⟩ := HQ.out _ hbr q hq2
         have hBq := HB12.out.trans (hbr.mono HB12.out.size)
         have HT3 : Hid (∀ wx, Below wr.heap.size wr wx → Below w.heap.size w wx) := Lib.hid fun wx hb => HB8.out.trans (((HB10.out.trans (hBq.mono HB10.out.size)).trans (hb.mono (HB10.out.trans (hBq.mono HB10.out.size)).size)).mono HB8.out.size)
         have hN := HN10.out.below hBq
         have kN := (hBq.block _ (lt_of_block HK9.out)).trans HK9.out
         have cN := six_of kN
         have FT := Lib.hid (vfit_any _ y p k hkw wr hN.nod (fun b q => q) hN.low (by decide) hN.fit (HT.out.below (HT3.out _ (Below.refl _ _))) (HD.out.below (HT3.out _ (Below.refl _ _))))
         have RF := Lib.hid (fun (wx : World) (hb : Below wr.heap.size wr wx) => rfit_any _ y p k hkw wx (hN.below hb).nod (fun b q => q) hN.low (by decide) hN.fit (HT.out.below (HT3.out _ hb)))
         have KN := Lib.hid kN
         clear hbr hBq hN kN hkw
         go_upto_region 16 with (go_at_call 11; (with_reducible refine (FT.out).mono ?_); rintro e w13 ⟨cf, rfl, hnf, hb13⟩; obtain ⟨p3, q3, r3, p4, q4, r4, rfl⟩ := hnf.slices)
         have b14 := (Below.refl w13.heap.size w13).alloc (o := .cells #[.int .i64 (fitX y p k).kind, .bool (fitX y p k).bool, .int .i64 (fitX y p k).num, .string (fitX y p k).text, .slice p3 q3 r3, .slice p4 q4 r4] 30) (Nat.le_refl _)
         have k14 := heap_alloc_new w13 (.cells #[.int .i64 (fitX y p k).kind, .bool (fitX y p k).bool, .int .i64 (fitX y p k).num, .string (fitX y p k).text, .slice p3 q3 r3, .slice p4 q4 r4] 30)
         have n14 := (hnf.same (w' := w13.alloc (.cells #[.int .i64 (fitX y p k).kind, .bool (fitX y p k).bool, .int .i64 (fitX y p k).num, .string (fitX y p k).text, .slice p3 q3 r3, .slice p4 q4 r4] 30)) fun b q => b14.block b q).mono fun b q => Nat.lt_of_lt_of_le q b14.size
         have hB14 := hb13.trans (b14.mono hb13.size)
         generalize w13.alloc _ = w14 at b14 k14 n14 hB14 ⊢
         generalize w13.heap.size = g14 at k14 ⊢
         have RF1 := Lib.hid (RF.out _ hB14)
         have c14 := six_of ((hB14.block _ (lt_of_block KN.out)).trans KN.out)
         clear cN FT hnf hb13 b14 RF hk
         go_upto_region 17 with (go_at_call 12; (with_reducible refine (RF1.out).mono ?_); rintro e w15 ⟨cf, rfl, hnf, hb15⟩; obtain ⟨p5, q5, r5, p6, q6, r6, rfl⟩ := hnf.slices)
         have b16 := (Below.refl w15.heap.size w15).alloc (o := .cells #[.int .i64 (fitX y p k).kind, .bool (fitX y p k).bool, .int .i64 (fitX y p k).num, .string (fitX y p k).text, .slice p5 q5 r5, .slice p6 q6 r6] 30) (Nat.le_refl _)
         have k16 := heap_alloc_new w15 (.cells #[.int .i64 (fitX y p k).kind, .bool (fitX y p k).bool, .int .i64 (fitX y p k).num, .string (fitX y p k).text, .slice p5 q5 r5, .slice p6 q6 r6] 30)
         have n16 := (hnf.same (w' := w15.alloc (.cells #[.int .i64 (fitX y p k).kind, .bool (fitX y p k).bool, .int .i64 (fitX y p k).num, .string (fitX y p k).text, .slice p5 q5 r5, .slice p6 q6 r6] 30)) fun b q => b16.block b q).mono fun b q => Nat.lt_of_lt_of_le q b16.size
         have hB1516 := hb15.trans (b16.mono hb15.size)
         have hB16 := hB14.trans (hB1516.mono hB14.size)
         have k14' := (hB1516.block _ (lt_of_block k14)).trans k14
         have n14' := (n14.same fun b q => hB1516.block b q).mono fun b q => Nat.lt_of_lt_of_le q hB1516.size
         generalize w15.alloc _ = w16 at b16 k16 n16 hB1516 hB16 k14' n14' ⊢
         generalize w15.heap.size = g16 at k16 ⊢
         have HB16 := Lib.hid (HBq.out.trans (hB16.mono HBq.out.size))
         have SM := Lib.hid (rsame_any 4 4 _ _ _ _ _ _ w16 n14' n16 (fun b q => q) (fun b q => q))
         have f14 := six_of k14'
         have f16 := six_of k16
         clear c14 RF1 hnf hb15 b16 k16 n16 hB16 k14 k14' n14 n14' hB14 hB1516 HT3 KN
         generalize fitX y p k = X at SM f14 f16 ⊢
         generalize fitS y p k = S
         generalize fitE y p k = E
         have es : (S.toList == S.toList) = true := beq_self_eq_true _
         have e2 : (E == E) = true := beq_self_eq_true _
         go_wp2_with (go_at_call 13; (with_reducible refine (SM.out).mono ?_); rintro e w17 ⟨bz, rfl, hbz, hb17⟩; obtain rfl : bz = true := hbz.2 (by first | exact rfl | trivial))
         go_roundw
         case rel => exact ⟨q + 1, by omega, by go_num, HB16.out.trans (hb17.mono HB16.out.size)⟩
         case measure => simp [intOf]; omega
 ·rw [decide_eq_false h500] at LI
  clear h500 hform hmod
  go_enter Tryz.func3, Tryz.ntmps3
  go_wp2_with (first
   | (go_at_call 5; (with_reducible refine (LI.out _).mono ?_); rintro e w3 ⟨rfl, rfl⟩)
   | (go_at_call 6; (with_reducible refine (AW.out _ (Below.refl _ _)).mono ?_); rintro e w1 ⟨rfl, hb⟩))
  go_ret
  exact ⟨rfl, hb⟩
end Go.Proofs.YtmlmdidaldcoiaaGreatDoor
