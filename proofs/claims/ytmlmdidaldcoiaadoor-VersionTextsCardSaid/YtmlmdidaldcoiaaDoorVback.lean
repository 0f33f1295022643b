/- The walk of the statement VersionBack. -/
import Derived.Test.YtmlmdidaldcoiaaDoorVlw
namespace Go.Proofs.YtmlmdidaldcoiaaDoor
open Go Go.Maps Go.ChangeShapes Go.WideShapes Go.ChangeAt Go.RowKit
set_option linter.unusedVariables false
set_option linter.unusedSimpArgs false

theorem wide0 : WideV v0 := ⟨by unfold wI; decide, by unfold wI; decide, by unfold wI; decide, by unfold wI; decide⟩
theorem vt_text {v : VD} (h : validV v = true) : pvV (vtS v).data.toList = v ∧ pvE (vtS v).data.toList = 0 ∧ vtE v = 0 ∧ (vtS v).size = 17 := by
  have e := parse_text h
  rw [← vt_ok' h] at e
  refine ⟨by unfold pvV; rw [e]; rfl, by unfold pvE; rw [e]; rfl, by unfold vtE; rw [h]; rfl, ?_⟩
  have := textV_length h
  rw [← vt_ok' h, Array.length_toList] at this
  exact this
theorem vt_bad {v : VD} (h : validV v = false) : vtS v = ⟨#[]⟩ ∧ vtE v = 2 := by unfold vtS vtE; rw [h]; exact ⟨rfl, rfl⟩
/-- What was read, if it was, is written just so. -/
theorem pv_back (r : ByteArray) : (pvE r.data.toList = 0 ∧ WideV (pvV r.data.toList) ∧ vtS (pvV r.data.toList) = r ∧ vtE (pvV r.data.toList) = 0) ∨ (pvE r.data.toList = 10 ∧ WideV (pvV r.data.toList)) := by
  rcases pv_cases r.data.toList with ⟨v, h1, h2, h3⟩ | ⟨h1, h2, h3⟩
  · obtain ⟨g1, g2⟩ := parse_inv h1
    rw [h2, h3]
    refine .inl ⟨rfl, validV_wide g1, ?_, by unfold vtE; rw [g1]; rfl⟩
    apply ByteArray.ext; apply Array.toList_inj.1
    rw [vt_ok' g1]; exact g2
  · rw [h2, h3]
    exact .inr ⟨rfl, wide0⟩
set_option maxHeartbeats 6400000 in
set_option maxRecDepth 100000 in
theorem back9_walk (a : Option Addr) (len cap : Nat) (zs : List Int) (xa xb : Int) (ha : wI xa) (hb : wI xb) (w : World) (hn : NumsB w.heap.size w a len cap zs) (hT : DB w) (hE : VErr w) :
    Calls Tryd.prog 5 #[.slice a len cap, .int .i64 xa, .int .i64 xb] w fun e w' => e = .returned (.bool true) ∧ Below w.heap.size w w' := by
  have AW := Lib.hid (fun (wx : World) (hb : Below w.heap.size w wx) => awake9_any wx (hT.below hb))
  have LI := Lib.hid (fun wx : World => light_any a len cap wx)
  have HT := Lib.hid hT
  have HE := Lib.hid hE
  have RO := Lib.hid (roll_any a len cap zs w hn)
  have HA := Lib.hid (And.intro ha hb)
  clear hn hT hE ha hb
  by_cases h500 : (len : Int) ≤ 500
  · rw [decide_eq_true h500] at LI
    clear h500
    go_enter Tryd.func5, Tryd.ntmps5
    go_upto_region 4 with (first
      | (go_at_call 7; (with_reducible refine (LI.out _).mono ?_); rintro e w3 ⟨rfl, rfl⟩)
      | (go_at_call 10; (with_reducible refine (RO.out).mono ?_); rintro e w2 ⟨rfl, hb2, hd2⟩; (have hg2 := hd2.lt))
      | (go_at_call 9; (with_reducible refine (some_any w.heap.size w.heap.size _ hd2).mono ?_); rintro e w4 ⟨⟨V, hV, hp5, rfl⟩, hg4, hd4⟩; unfold vcs))
    have hB4 : Below w.heap.size w w4 := hb2.grown hg4 hb2.size (fun k hk => by cases hk; exact Nat.le_refl _)
    have b5 := (Below.refl w4.heap.size w4).alloc (o := .cells #[.string V.p, .int .i64 V.a, .int .i64 V.b, .int .i64 V.f, .int .i64 V.z] 24) (Nat.le_refl _)
    have k5 := heap_alloc_new w4 (.cells #[.string V.p, .int .i64 V.a, .int .i64 V.b, .int .i64 V.f, .int .i64 V.z] 24)
    generalize w4.alloc _ = w5 at b5 k5 ⊢
    have hB5 := hB4.trans (b5.mono hB4.size)
    generalize w4.heap.size = g5 at k5 ⊢
    have HB5 := Lib.hid hB5
    have HK5 := Lib.hid k5
    have c5 := five_of k5
    have HV := Lib.hid hV
    clear hb2 hd2 hg2 hg4 hd4 hB4 b5 k5 hB5 hV RO LI hp5
    have TX : Hid (Calls Tryd.prog 11 #[.agg #[.string V.p, .int .i64 V.a, .int .i64 V.b, .int .i64 V.f, .int .i64 V.z]] w5 (TxPostV V w5)) := Lib.hid (vtext_any V w5 HV.out (HT.out.below HB5.out))
    unfold TxPostV at TX
    cases hval : validV V with
    | false =>
      rw [(vt_bad hval).1, (vt_bad hval).2] at TX
      have VA : Hid (∀ wx : World, Calls Tryd.prog 13 #[.agg #[.string V.p, .int .i64 V.a, .int .i64 V.b, .int .i64 V.f, .int .i64 V.z]] wx fun e w' => e = .returned (.bool false) ∧ Below wx.heap.size wx w') := Lib.hid fun wx => by have := valid_any V wx HV.out; rw [hval] at this; exact this
      clear hval
      go_upto_region 6 with (go_at_call 11; (with_reducible refine (TX.out).mono ?_); rintro e w6 ⟨rfl, hb6⟩)
      have c6 := five_keep hb6 (cell_lt c5.1) c5
      have HB6 := Lib.hid (HB5.out.trans (hb6.mono HB5.out.size))
      clear hb6 c5
      go_wp2_with (first
        | (go_at_call 13; (with_reducible refine (VA.out _).mono ?_); rintro e w7 ⟨rfl, hb7⟩)
        | (go_at_call 8; (with_reducible refine (AW.out _ (HB6.out.trans (hb7.mono HB6.out.size))).mono ?_); rintro e w8 ⟨rfl, hb8⟩))
      go_ret
      have h7 := HB6.out.trans (hb7.mono HB6.out.size)
      exact ⟨rfl, h7.trans (hb8.mono h7.size)⟩
    | true =>
      obtain ⟨t1, t2, t3, t4⟩ := vt_text hval
      rw [t3] at TX
      obtain ⟨S, hS⟩ : ∃ S, S = vtS V := ⟨_, rfl⟩
      rw [← hS] at t1 t2 t4 TX
      clear hS hval t3
      have H4 := Lib.hid t4
      go_upto_region 7 with (go_at_call 11; (with_reducible refine (TX.out).mono ?_); rintro e w6 ⟨rfl, hb6⟩)
      have HB6 := Lib.hid (HB5.out.trans (hb6.mono HB5.out.size))
      have HK6 := Lib.hid ((hb6.block _ (lt_of_block HK5.out)).trans HK5.out)
      clear hb6 c5 HK5 TX
      have PS : Hid (Calls Tryd.prog 16 #[.string S] w6 (PsPost S w6)) := Lib.hid (vparse_any S w6 (HT.out.below HB6.out) (HE.out.below HB6.out))
      unfold PsPost at PS
      rw [t1, t2] at PS
      unfold vcs at PS
      clear t1 t2 t4
      go_upto_region 8 with (go_at_call 16; (with_reducible refine (PS.out).mono ?_); rintro e w7 ⟨rfl, hb7⟩)
      have HB7 := Lib.hid (HB6.out.trans (hb7.mono HB6.out.size))
      have k7 := (hb7.block _ (lt_of_block HK6.out)).trans HK6.out
      have b8 := (Below.refl w7.heap.size w7).alloc (o := .cells #[.string V.p, .int .i64 V.a, .int .i64 V.b, .int .i64 V.f, .int .i64 V.z] 24) (Nat.le_refl _)
      have k8 := heap_alloc_new w7 (.cells #[.string V.p, .int .i64 V.a, .int .i64 V.b, .int .i64 V.f, .int .i64 V.z] 24)
      have HK8 := Lib.hid ((b8.block _ (lt_of_block k7)).trans k7)
      have HB8 := Lib.hid (HB7.out.trans (b8.mono HB7.out.size))
      generalize w7.alloc _ = w8 at k8 HK8 HB8 ⊢
      generalize w7.heap.size = g8 at k8 ⊢
      have HX8 := Lib.hid k8
      clear hb7 k7 b8 k8 HB7 PS HK6 HB6
      have SP : Hid (Calls Tryd.prog 15 #[.string S, .int .i64 xa, .int .i64 xb] w8 (SomeStr S.size w8)) := Lib.hid (spoil_any S xa xb w8 (by rw [H4.out]; decide) HA.out.1.1 HA.out.1.2)
      unfold SomeStr at SP
      go_upto_region 9 with (go_at_call 15; (with_reducible refine (SP.out).mono ?_); rintro e w9 ⟨r, rfl, hr, hb9⟩)
      have HB9 := Lib.hid (HB8.out.trans (hb9.mono HB8.out.size))
      have HK9 := Lib.hid ((hb9.block _ (lt_of_block HK8.out)).trans HK8.out)
      have HX9 := Lib.hid ((hb9.block _ (lt_of_block HX8.out)).trans HX8.out)
      clear hb9 SP HK8 HX8 HB8 hr
      have PR : Hid (Calls Tryd.prog 16 #[.string r] w9 (PsPost r w9)) := Lib.hid (vparse_any r w9 (HT.out.below HB9.out) (HE.out.below HB9.out))
      unfold PsPost at PR
      have HR := Lib.hid (pv_back r)
      generalize pvE r.data.toList = E at PR HR
      generalize pvV r.data.toList = U at PR HR
      unfold vcs at PR
      go_upto_region 10 with (go_at_call 16; (with_reducible refine (PR.out).mono ?_); rintro e w10 ⟨rfl, hb10⟩)
      have HB10 := Lib.hid (HB9.out.trans (hb10.mono HB9.out.size))
      have k10 := (hb10.block _ (lt_of_block HK9.out)).trans HK9.out
      have x10 := (hb10.block _ (lt_of_block HX9.out)).trans HX9.out
      have b11 := (Below.refl w10.heap.size w10).alloc (o := .cells #[.string U.p, .int .i64 U.a, .int .i64 U.b, .int .i64 U.f, .int .i64 U.z] 24) (Nat.le_refl _)
      have k11 := heap_alloc_new w10 (.cells #[.string U.p, .int .i64 U.a, .int .i64 U.b, .int .i64 U.f, .int .i64 U.z] 24)
      have HK11 := Lib.hid ((b11.block _ (lt_of_block k10)).trans k10)
      have HX11 := Lib.hid ((b11.block _ (lt_of_block x10)).trans x10)
      have HB11 := Lib.hid (HB10.out.trans (b11.mono HB10.out.size))
      generalize w10.alloc _ = w11 at k11 HK11 HX11 HB11 ⊢
      generalize w10.heap.size = g11 at k11 ⊢
      have c11 := five_of k11
      clear hb10 k10 x10 b11 k11 HB10 PR HK9 HX9 HB9
      have HWU : Hid (WideV U) := Lib.hid (by rcases HR.out with h | h; exact h.2.1; exact h.2)
      have TU : Hid (Calls Tryd.prog 11 #[.agg #[.string U.p, .int .i64 U.a, .int .i64 U.b, .int .i64 U.f, .int .i64 U.z]] w11 (TxPostV U w11)) := Lib.hid (vtext_any U w11 HWU.out (HT.out.below HB11.out))
      unfold TxPostV at TU
      go_upto_region 11 with (go_at_call 11; (with_reducible refine (TU.out).mono ?_); rintro e w12 ⟨rfl, hb12⟩)
      have HB12 := Lib.hid (HB11.out.trans (hb12.mono HB11.out.size))
      have k12 := five_of ((hb12.block _ (lt_of_block HK11.out)).trans HK11.out)
      have x12 := five_of ((hb12.block _ (lt_of_block HX11.out)).trans HX11.out)
      have s17 : ((S.size : Int) == 17) = true := by rw [H4.out]; rfl
      have VE := fun wx => vers_eql wx V.p V.a V.b V.f V.z
      have VG := fun wx op x y => vers_guard wx op x y #[.string V.p, .int .i64 V.a, .int .i64 V.b, .int .i64 V.f, .int .i64 V.z] #[.string V.p, .int .i64 V.a, .int .i64 V.b, .int .i64 V.f, .int .i64 V.z]
      clear hb12 c11 TU HK11 HX11 HB11 HWU
      rcases HR.out with ⟨rfl, -, hu, hu0⟩ | ⟨rfl, -⟩
      · have e1 : ((vtS U).toList == r.toList) = true := by rw [hu]; exact beq_self_eq_true _
        rw [hu0]
        clear HR hu hu0
        go_wp2_with (go_at_call 8; (with_reducible refine (AW.out _ HB12.out).mono ?_); rintro e w13 ⟨rfl, hb13⟩)
        go_ret
        exact ⟨rfl, HB12.out.trans (hb13.mono HB12.out.size)⟩
      · clear HR
        go_wp2_with (go_at_call 8; (with_reducible refine (AW.out _ HB12.out).mono ?_); rintro e w13 ⟨rfl, hb13⟩)
        go_ret
        exact ⟨rfl, HB12.out.trans (hb13.mono HB12.out.size)⟩
  · rw [decide_eq_false h500] at LI
    clear h500
    go_enter Tryd.func5, Tryd.ntmps5
    go_wp2_with (first
      | (go_at_call 7; (with_reducible refine (LI.out _).mono ?_); rintro e w3 ⟨rfl, rfl⟩)
      | (go_at_call 8; (with_reducible refine (AW.out _ (Below.refl _ _)).mono ?_); rintro e w1 ⟨rfl, hb⟩))
    go_ret
    exact ⟨rfl, hb⟩
end Go.Proofs.YtmlmdidaldcoiaaDoor
