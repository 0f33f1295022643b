/- The walk of the statement PackBack. -/
import Derived.Test.YtdppdonaojdceaaDoorMaw
import Derived.Test.YtdppdonaojdceaaDoorJsm
import Derived.Test.YtdppdonaojdceaaDoorNputs
import Derived.Test.YtdppdonaojdceaaDoorSpoil
import Derived.Test.YtdppdonaojdceaaDoorNkn
namespace Go.Proofs.YtdppdonaojdceaaDoor
open Go Go.ChangeShapes Go.WideShapes Go.ChangeAt Go.RowKit
set_option linter.unusedVariables false
set_option linter.unusedSimpArgs false

set_option maxHeartbeats 6400000 in
set_option maxRecDepth 100000 in
theorem back8_walk (a : Option Addr) (len cap : Nat) (zs : List Int) (w : World) (hn : NumsB w.heap.size w a len cap zs) (hT : Ptab w) :
    Calls Tryd.prog 5 #[.slice a len cap] w fun e w' => e = .returned (.bool true) ∧ Below w.heap.size w w' := by
  have AW := Lib.hid (fun (wx : World) (hb : Below w.heap.size w wx) => awake8_any wx (hT.below hb))
  have LI := Lib.hid (fun wx : World => light_any a len cap wx)
  have HT := Lib.hid hT
  have RO := Lib.hid (roll_any a len cap zs w hn)
  clear hn hT
  by_cases h500 : (len : Int) ≤ 500
  · rw [decide_eq_true h500] at LI
    clear h500
    go_enter Tryd.func5, Tryd.ntmps5
    go_upto_region 4 with (first
      | (go_at_call 7; (with_reducible refine (LI.out _).mono ?_); rintro e w3 ⟨rfl, rfl⟩)
      | (go_at_call 9; (with_reducible refine (RO.out).mono ?_); rintro e w2 ⟨rfl, hb2, hd2⟩))
    have hg2 := hd2.lt
    go_upto_region 5 with (first
      | (go_at_call 10; (with_reducible refine (knode_litk w.heap.size w.heap.size 4 4 rfl (by decide) (by decide) _ hd2).mono ?_); rintro e w4 ⟨⟨cs1, x1, rfl, hx1, hv1⟩, hg4, hd4⟩; obtain ⟨a1, l1, c1, a2, l2, c2, rfl⟩ := hx1.slices)
      | (go_at_call 11; (with_reducible refine (kmap_litk w.heap.size w.heap.size 3 3 rfl (by decide) (by decide) _ hd4).mono ?_); rintro e w5 ⟨⟨cs2, x2, rfl, hx2, hm2, hi2, hvw2, hc2⟩, hg5, hd5⟩; obtain ⟨a5, l5, c5, a6, l6, c6, rfl⟩ := hx2.slices))
    -- MAIN
    have K1 : KitM x1 := KitM.of (by decide) (validK_w hv1) (validK_cost hv1)
    have K2 : KitM x2 := KitM.ofMap (by decide) (by decide) hm2 hvw2 hc2
    have m1 : NodeIn 4 (fun b => w.heap.size < b ∧ b < w5.heap.size) w5 _ x1 := nod_grown (hx1.mono fun b hb => ⟨by omega, hb.2⟩) hg5
    have hs4 := hg4.size
    have hs5 := hg5.size
    have m2 : NodeIn 3 (fun b => w.heap.size < b ∧ b < w5.heap.size) w5 _ x2 := hx2.mono fun b hb => ⟨by omega, hb.2⟩
    have hB5 : Below w.heap.size w w5 := (hb2.grown hg4 hb2.size (fun k hk => by cases hk; omega)).grown hg5 (by omega) (fun k hk => by cases hk; omega)
    have b6 := (Below.refl w5.heap.size w5).alloc (o := .cells #[.int .i64 x1.kind, .bool x1.bool, .int .i64 x1.num, .string x1.text, .slice a1 l1 c1, .slice a2 l2 c2] 26) (Nat.le_refl _)
    have k6 := heap_alloc_new w5 (.cells #[.int .i64 x1.kind, .bool x1.bool, .int .i64 x1.num, .string x1.text, .slice a1 l1 c1, .slice a2 l2 c2] 26)
    have z6 : (w5.alloc (.cells #[.int .i64 x1.kind, .bool x1.bool, .int .i64 x1.num, .string x1.text, .slice a1 l1 c1, .slice a2 l2 c2] 26)).heap.size = w5.heap.size + 1 := by simp
    generalize w5.alloc (.cells #[.int .i64 x1.kind, .bool x1.bool, .int .i64 x1.num, .string x1.text, .slice a1 l1 c1, .slice a2 l2 c2] 26) = w6 at b6 k6 z6 ⊢
    have b7 := (Below.refl w6.heap.size w6).alloc (o := .cells #[.int .i64 x2.kind, .bool x2.bool, .int .i64 x2.num, .string x2.text, .slice a5 l5 c5, .slice a6 l6 c6] 26) (Nat.le_refl _)
    have k7 := heap_alloc_new w6 (.cells #[.int .i64 x2.kind, .bool x2.bool, .int .i64 x2.num, .string x2.text, .slice a5 l5 c5, .slice a6 l6 c6] 26)
    rw [z6] at k7
    generalize w6.alloc (.cells #[.int .i64 x2.kind, .bool x2.bool, .int .i64 x2.num, .string x2.text, .slice a5 l5 c5, .slice a6 l6 c6] 26) = w7 at b7 k7 ⊢
    have b57 := b6.trans (b7.mono b6.size)
    have hB7 := hB5.trans (b57.mono hB5.size)
    have H1 : Hel 26 4 w7 w5.heap.size [.int .i64 x1.kind, .bool x1.bool, .int .i64 x1.num, .string x1.text, .slice a1 l1 c1, .slice a2 l2 c2] x1 := ⟨(b7.block _ (by omega)).trans k6, (m1.same fun b hb => b57.block b hb.2).mono fun b hb => Nat.lt_of_lt_of_le hb.2 b57.size⟩
    have H2 : Hel 26 3 w7 (w5.heap.size + 1) [.int .i64 x2.kind, .bool x2.bool, .int .i64 x2.num, .string x2.text, .slice a5 l5 c5, .slice a6 l6 c6] x2 := ⟨k7, (m2.same fun b hb => b57.block b hb.2).mono fun b hb => Nat.lt_of_lt_of_le hb.2 b57.size⟩
    have HB7 := Lib.hid hB7
    have TT : Hid (∀ wx, Below w7.heap.size w7 wx → Ptab wx) := Lib.hid fun wx hb => HT.out.below (HB7.out.trans (hb.mono HB7.out.size))
    have E1 : Hid (∀ wx, Below w7.heap.size w7 wx → Calls Tryd.prog 13 #[.agg #[.int .i64 x1.kind, .bool x1.bool, .int .i64 x1.num, .string x1.text, .slice a1 l1 c1, .slice a2 l2 c2]] wx fun e w' => e = .returned (.tuple #[.string (mpS x1), .int .i64 0]) ∧ Below wx.heap.size wx w') := Lib.hid fun wx hb => by
      have h := mpenc_any _ x1 wx (H1.below hb).nod (fun b hb => hb) (clowV K1.valid _) (fun _ => K1.nums) (TT.out wx hb)
      unfold MEncPost at h
      rw [K1.err] at h
      exact h
    have E2 : Hid (∀ wx, Below w7.heap.size w7 wx → Calls Tryd.prog 13 #[.agg #[.int .i64 x2.kind, .bool x2.bool, .int .i64 x2.num, .string x2.text, .slice a5 l5 c5, .slice a6 l6 c6]] wx fun e w' => e = .returned (.tuple #[.string (mpS x2), .int .i64 0]) ∧ Below wx.heap.size wx w') := Lib.hid fun wx hb => by
      have h := mpenc_any _ x2 wx (H2.below hb).nod (fun b hb => hb) (clowV K2.valid _) (fun _ => K2.nums) (TT.out wx hb)
      unfold MEncPost at h
      rw [K2.err] at h
      exact h
    have V1 : Hid (∀ wx, Below w7.heap.size w7 wx → Calls Tryd.prog 20 #[.agg #[.int .i64 x1.kind, .bool x1.bool, .int .i64 x1.num, .string x1.text, .slice a1 l1 c1, .slice a2 l2 c2]] wx fun e w' => e = .returned (.bool true) ∧ Below wx.heap.size wx w') := Lib.hid fun wx hb => by
      have h := risvalid_t _ x1 wx (H1.below hb).nod (fun b hb => hb) (clowV K1.valid _) (TT.out wx hb)
      rw [K1.valid] at h
      exact h
    have V2 : Hid (∀ wx, Below w7.heap.size w7 wx → Calls Tryd.prog 20 #[.agg #[.int .i64 x2.kind, .bool x2.bool, .int .i64 x2.num, .string x2.text, .slice a5 l5 c5, .slice a6 l6 c6]] wx fun e w' => e = .returned (.bool true) ∧ Below wx.heap.size wx w') := Lib.hid fun wx hb => by
      have h := risvalid_t _ x2 wx (H2.below hb).nod (fun b hb => hb) (clowV K2.valid _) (TT.out wx hb)
      rw [K2.valid] at h
      exact h
    have D1 : Hid (∀ wx, Below w7.heap.size w7 wx → Calls Tryd.prog 17 #[.string (mpS x1)] wx (MDecPost (mpS x1) wx)) := Lib.hid fun wx hb => mpdec_any _ wx (TT.out wx hb)
    have D2 : Hid (∀ wx, Below w7.heap.size w7 wx → Calls Tryd.prog 17 #[.string (mpS x2)] wx (MDecPost (mpS x2) wx)) := Lib.hid fun wx hb => mpdec_any _ wx (TT.out wx hb)
    have KD1 : Hid (∀ n er, MDecIs (mpS x1) n er → er = 0 ∧ x1 = n) := Lib.hid fun n er h => ⟨(K1.dec h).1, (K1.dec h).2.symm⟩
    have KD2 : Hid (∀ n er, MDecIs (mpS x2) n er → er = 0 ∧ x2 = n) := Lib.hid fun n er h => ⟨(K2.dec h).1, (K2.dec h).2.symm⟩
    have KI := Lib.hid (K1.inj K2)
    have HH1 := Lib.hid (fun wx (hb : Below w7.heap.size w7 wx) => H1.below hb)
    have HH2 := Lib.hid (fun wx (hb : Below w7.heap.size w7 wx) => H2.below hb)
    have HL2 := Lib.hid hd2
    generalize hs1 : mpS x1 = s1 at E1 D1 KD1 KI
    generalize hs2 : mpS x2 = s2 at E2 D2 KD2 KI
    have hf1 := six_of H1.blk
    have hf2 := six_of H2.blk
    obtain ⟨g1, hg1⟩ : ∃ g1, g1 = w5.heap.size := ⟨_, rfl⟩
    rw [← hg1] at HH1 HH2 hf1 hf2 ⊢
    have HG := Lib.hid hg1
    clear K1 K2 hv1 hm2 hi2 hvw2 hc2 hx1 hx2 hd2 hd4 hd5 hb2 hg4 hg5 m1 m2 hs4 hs5 hB5 b6 k6 z6 b7 k7 b57 hB7 H1 H2 hs1 hs2 hg1 hg2
    go_upto_region 6 with (go_at_call 13; (with_reducible refine (E1.out _ (Below.refl _ _)).mono ?_); rintro e w8 ⟨rfl, hb8⟩)
    clear hf1
    have hf2b := six_of (HH2.out _ hb8).blk
    clear hf2
    go_upto_region 7 with (go_at_call 13; (with_reducible refine (E2.out _ hb8).mono ?_); rintro e w9 ⟨rfl, hb9⟩)
    have hc9 := hb8.trans (hb9.mono hb8.size)
    have hf1 := six_of (HH1.out _ hc9).blk
    clear hf2b hb9 hb8
    go_upto_region 11 with (first
      | (go_at_call 20; (with_reducible refine (V2.out _ hc10).mono ?_); rintro e w11 ⟨rfl, hb11⟩)
      | (go_at_call 20; (with_reducible refine (V1.out _ hc9).mono ?_); rintro e w10 ⟨rfl, hb10⟩; (have hc10 := hc9.trans (hb10.mono hc9.size)); (have hf2 := six_of (HH2.out _ hc10).blk)))
    have hc11 := hc10.trans (hb11.mono hc10.size)
    clear hf1 hf2 hb10 hb11 hc9 hc10
    go_upto_region 12 with (go_at_call 17; (with_reducible refine (D1.out _ hc11).mono ?_); rintro e w12 ⟨ms, m, er, rfl, hm, hb12, hd12⟩; go_loud ((obtain ⟨rfl, rfl⟩ := KD1.out m er hd12); (obtain ⟨p1, q1, r1, p2, q2, r2, hcs⟩ := hm.slices); subst hcs))
    have b13 := (Below.refl w12.heap.size w12).alloc (o := .cells #[.int .i64 x1.kind, .bool x1.bool, .int .i64 x1.num, .string x1.text, .slice p1 q1 r1, .slice p2 q2 r2] 26) (Nat.le_refl _)
    have k13 := heap_alloc_new w12 (.cells #[.int .i64 x1.kind, .bool x1.bool, .int .i64 x1.num, .string x1.text, .slice p1 q1 r1, .slice p2 q2 r2] 26)
    have HM13 : Hel 26 9 (w12.alloc (.cells #[.int .i64 x1.kind, .bool x1.bool, .int .i64 x1.num, .string x1.text, .slice p1 q1 r1, .slice p2 q2 r2] 26)) w12.heap.size [.int .i64 x1.kind, .bool x1.bool, .int .i64 x1.num, .string x1.text, .slice p1 q1 r1, .slice p2 q2 r2] x1 := ⟨k13, (hm.same fun b hb => b13.block b hb.2).mono fun b hb => Nat.lt_of_lt_of_le hb.2 b13.size⟩
    have hc12 := hc11.trans (hb12.mono hc11.size)
    have hc13 := hc12.trans (b13.mono hc12.size)
    generalize w12.alloc (.cells #[.int .i64 x1.kind, .bool x1.bool, .int .i64 x1.num, .string x1.text, .slice p1 q1 r1, .slice p2 q2 r2] 26) = w13 at b13 k13 HM13 hc13 ⊢
    obtain ⟨g3, hg3⟩ : ∃ g3, g3 = w12.heap.size := ⟨_, rfl⟩
    rw [← hg3] at HM13 ⊢
    have HM := Lib.hid (fun wx (hb : Below w13.heap.size w13 wx) => HM13.below hb)
    clear hm hd12 hb12 hc11 hc12 b13 k13 hg3 HM13
    go_upto_region 13 with (go_at_call 17; (with_reducible refine (D2.out _ hc13).mono ?_); rintro e w14 ⟨ms, m, er, rfl, hm, hb14, hd14⟩; go_loud ((obtain ⟨rfl, rfl⟩ := KD2.out m er hd14); (obtain ⟨p3, q3, r3, p4, q4, r4, hcs⟩ := hm.slices); subst hcs))
    have b15 := (Below.refl w14.heap.size w14).alloc (o := .cells #[.int .i64 x2.kind, .bool x2.bool, .int .i64 x2.num, .string x2.text, .slice p3 q3 r3, .slice p4 q4 r4] 26) (Nat.le_refl _)
    have k15 := heap_alloc_new w14 (.cells #[.int .i64 x2.kind, .bool x2.bool, .int .i64 x2.num, .string x2.text, .slice p3 q3 r3, .slice p4 q4 r4] 26)
    have HN15 : Hel 26 9 (w14.alloc (.cells #[.int .i64 x2.kind, .bool x2.bool, .int .i64 x2.num, .string x2.text, .slice p3 q3 r3, .slice p4 q4 r4] 26)) w14.heap.size [.int .i64 x2.kind, .bool x2.bool, .int .i64 x2.num, .string x2.text, .slice p3 q3 r3, .slice p4 q4 r4] x2 := ⟨k15, (hm.same fun b hb => b15.block b hb.2).mono fun b hb => Nat.lt_of_lt_of_le hb.2 b15.size⟩
    have hd15 := hb14.trans (b15.mono hb14.size)
    have hc15 := hc13.trans (hd15.mono hc13.size)
    generalize w14.alloc (.cells #[.int .i64 x2.kind, .bool x2.bool, .int .i64 x2.num, .string x2.text, .slice p3 q3 r3, .slice p4 q4 r4] 26) = w15 at b15 k15 HN15 hd15 hc15 ⊢
    obtain ⟨g4, hg4⟩ : ∃ g4, g4 = w14.heap.size := ⟨_, rfl⟩
    rw [← hg4] at HN15 ⊢
    have HN := Lib.hid (fun wx (hb : Below w15.heap.size w15 wx) => HN15.below hb)
    have HM := Lib.hid (fun wx (hb : Below w15.heap.size w15 wx) => HM.out wx (hd15.trans (hb.mono hd15.size)))
    have C15 : Hid (∀ wx, Below w15.heap.size w15 wx → Below w7.heap.size w7 wx) := Lib.hid fun wx hb => hc15.trans (hb.mono hc15.size)
    clear hm hd14 hb14 hc13 b15 k15 hg4 HN15 hd15 hc15
    have S1 := Lib.hid (fun wx (hb : Below w15.heap.size w15 wx) => rsame_any 9 4 _ _ _ _ x1 x1 wx (HM.out wx hb).nod (HH1.out wx (C15.out wx hb)).nod (fun b hb => hb) (fun b hb => hb))
    have S2 := Lib.hid (fun wx (hb : Below w15.heap.size w15 wx) => rsame_any 9 3 _ _ _ _ x2 x2 wx (HN.out wx hb).nod (HH2.out wx (C15.out wx hb)).nod (fun b hb => hb) (fun b hb => hb))
    have S3 := Lib.hid (fun wx (hb : Below w15.heap.size w15 wx) => rsame_any 4 3 _ _ _ _ x1 x2 wx (HH1.out wx (C15.out wx hb)).nod (HH2.out wx (C15.out wx hb)).nod (fun b hb => hb) (fun b hb => hb))
    have fm := six_of (HM.out w15 (Below.refl _ _)).blk
    have fa := six_of (HH1.out w15 (C15.out _ (Below.refl _ _))).blk
    have AW2 : Hid (∀ wx, Below w15.heap.size w15 wx → Calls Tryd.prog 8 #[] wx fun e w' => e = .returned (.bool true) ∧ Below wx.heap.size wx w') := Lib.hid fun wx hb => AW.out wx (HB7.out.trans ((C15.out wx hb).mono HB7.out.size))
    clear AW RO LI
    by_cases hxx : x1 = x2
    · have hst : (s1.toList == s2.toList) = true := str_beq (KI.out.2 hxx)
      have hee : ∀ W : World, (binOp BinOp.eql 4 (.bool true) (.bool true)).run Tryd.prog W = .ok (.bool true) W := fun W => by first | rfl | (go_simp; done) | simp [binOp, go_sem]
      have HXX := Lib.hid hxx
      clear hxx
      go_wp2_with (first
        | (go_at_call 8; (with_reducible refine (AW2.out _ hb18).mono ?_); rintro e w19 ⟨rfl, hb19⟩)
        | (go_at_call 19; (with_reducible refine (S3.out _ hb17).mono ?_); rintro e w18 ⟨bz, rfl, hbz, hb18'⟩; obtain rfl : bz = true := hbz.2 HXX.out; (have hb18 := hb17.trans (hb18'.mono hb17.size)))
        | (go_at_call 19; (with_reducible refine (S2.out _ hb16).mono ?_); rintro e w17 ⟨bz, rfl, hbz, hb17'⟩; obtain rfl : bz = true := hbz.2 (by first | exact rfl | trivial); (have hb17 := hb16.trans (hb17'.mono hb16.size)); (have ga := six_of (HH1.out _ (C15.out _ hb17)).blk); (have gb := six_of (HH2.out _ (C15.out _ hb17)).blk))
        | (go_at_call 19; (with_reducible refine (S1.out _ (Below.refl _ _)).mono ?_); rintro e w16 ⟨bz, rfl, hbz, hb16⟩; obtain rfl : bz = true := hbz.2 (by first | exact rfl | trivial); (have gm := six_of (HN.out _ hb16).blk); (have gb0 := six_of (HH2.out _ (C15.out _ hb16)).blk)))
      go_ret
      have hz := hb18.trans (hb19.mono hb18.size)
      exact ⟨rfl, HB7.out.trans ((C15.out _ hz).mono HB7.out.size)⟩
    · have hst : (s1.toList == s2.toList) = false := str_bne fun e => hxx (KI.out.1 e)
      have HXX := Lib.hid hxx
      clear hxx
      go_wp2_with (first
        | (go_at_call 8; (with_reducible refine (AW2.out _ hb18).mono ?_); rintro e w19 ⟨rfl, hb19⟩)
        | (go_at_call 19; (with_reducible refine (S3.out _ hb17).mono ?_); rintro e w18 ⟨bz, rfl, hbz, hb18'⟩; obtain rfl : bz = false := (by cases bz; rfl; exact absurd (hbz.1 rfl) HXX.out); (have hb18 := hb17.trans (hb18'.mono hb17.size)))
        | (go_at_call 19; (with_reducible refine (S2.out _ hb16).mono ?_); rintro e w17 ⟨bz, rfl, hbz, hb17'⟩; obtain rfl : bz = true := hbz.2 (by first | exact rfl | trivial); (have hb17 := hb16.trans (hb17'.mono hb16.size)); (have ga := six_of (HH1.out _ (C15.out _ hb17)).blk); (have gb := six_of (HH2.out _ (C15.out _ hb17)).blk))
        | (go_at_call 19; (with_reducible refine (S1.out _ (Below.refl _ _)).mono ?_); rintro e w16 ⟨bz, rfl, hbz, hb16⟩; obtain rfl : bz = true := hbz.2 (by first | exact rfl | trivial); (have gm := six_of (HN.out _ hb16).blk); (have gb0 := six_of (HH2.out _ (C15.out _ hb16)).blk)))
      go_ret
      have hz := hb18.trans (hb19.mono hb18.size)
      exact ⟨rfl, HB7.out.trans ((C15.out _ hz).mono HB7.out.size)⟩
  · rw [decide_eq_false h500] at LI
    clear h500
    go_enter Tryd.func5, Tryd.ntmps5
    go_wp2_with (first
      | (go_at_call 7; (with_reducible refine (LI.out _).mono ?_); rintro e w3 ⟨rfl, rfl⟩)
      | (go_at_call 8; (with_reducible refine (AW.out _ (Below.refl _ _)).mono ?_); rintro e w1 ⟨rfl, hb⟩))
    go_ret
    exact ⟨rfl, hb⟩
end Go.Proofs.YtdppdonaojdceaaDoor
