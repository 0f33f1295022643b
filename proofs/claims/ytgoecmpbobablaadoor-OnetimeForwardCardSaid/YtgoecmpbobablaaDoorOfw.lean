/- The walk of OnetimeForward: of two texts with different digits each one has a digit that is less. -/
import Derived.Test.YtgoecmpbobablaaDoorOrc
import Derived.Test.YtgoecmpbobablaaDoorPlan
import Derived.BigQuiet
namespace Go.Proofs.YtgoecmpbobablaaDoor
open Go.ChangeShapes Go.WideShapes Go.ChangeAt Go.RowKit
set_option linter.unusedVariables false
set_option linter.unusedSimpArgs false

theorem extract8_iff (a b : ByteArray) : ((⟨(sumL a.data.toList).toArray⟩ : ByteArray).extract 0 8).toList = ((⟨(sumL b.data.toList).toArray⟩ : ByteArray).extract 0 8).toList ↔ h8 a = h8 b := by
  rw [ByteArray.toList_eq, ByteArray.toList_eq, toList_extract, toList_extract]
  exact Iff.rfl
set_option maxHeartbeats 1600000 in
set_option maxRecDepth 100000 in
theorem forward_walk (a b : ByteArray) (w : World) (hT : STab w) :
    Calls Tryd.prog 5 #[.string a, .string b] w fun e w' => e = .returned (.bool true) ∧ Below w.heap.size w w' := by
  have AW := Lib.hid (fun (wx : World) (h : STab wx) => awake11_any wx h)
  have HT := Lib.hid hT
  clear hT
  by_cases h1 : 300 < a.size
  · have h1i : (300 : Int) < (a.size : Int) := by omega
    go_enter Tryd.func5, Tryd.ntmps5
    go_wp2_with (go_at_call 8; (with_reducible refine (AW.out _ HT.out).mono ?_); rintro e w1 ⟨rfl, hb1⟩)
    go_ret
    exact ⟨rfl, hb1⟩
  by_cases h2 : 300 < b.size
  · have h1i : ¬ (300 : Int) < (a.size : Int) := by omega
    have h2i : (300 : Int) < (b.size : Int) := by omega
    go_enter Tryd.func5, Tryd.ntmps5
    go_wp2_with (go_at_call 8; (with_reducible refine (AW.out _ HT.out).mono ?_); rintro e w1 ⟨rfl, hb1⟩)
    go_ret
    exact ⟨rfl, hb1⟩
  have h1i : ¬ (300 : Int) < (a.size : Int) := by omega
  have h2i : ¬ (300 : Int) < (b.size : Int) := by omega
  have DA := Lib.hid (digits_any a w (by omega) HT.out)
  have DB := Lib.hid (fun (wx : World) (h : STab wx) => digits_any b wx (by omega) h)
  have LM := Lib.hid (less_more a b)
  have LN := Lib.hid (less_ne a b)
  have EI := Lib.hid (extract8_iff a b)
  have SA := Lib.hid (fun (wx : World) => rsum_any a wx (by omega))
  have SB := Lib.hid (fun (wx : World) => rsum_any b wx (by omega))
  obtain ⟨sa, hsa⟩ : ∃ sa : ByteArray, sa = ⟨(sumL a.data.toList).toArray⟩ := ⟨_, rfl⟩
  obtain ⟨sb, hsb⟩ : ∃ sb : ByteArray, sb = ⟨(sumL b.data.toList).toArray⟩ := ⟨_, rfl⟩
  have hsas : sa.size = 32 := by
    have : sa.size = (sumL a.data.toList).length := by rw [hsa]; show (sumL a.data.toList).toArray.size = _; simp
    rw [this, sumL_length]
  have hsbs : sb.size = 32 := by
    have : sb.size = (sumL b.data.toList).length := by rw [hsb]; show (sumL b.data.toList).toArray.size = _; simp
    rw [this, sumL_length]
  have z1 : (8 : Int) ≤ (sa.size : Int) := by omega
  have z2 : (8 : Int) ≤ (sb.size : Int) := by omega
  rw [← hsa, ← hsb] at EI
  rw [← hsa] at SA
  rw [← hsb] at SB
  obtain ⟨A, hA⟩ : ∃ A, A = h8 a := ⟨_, rfl⟩
  obtain ⟨B, hB⟩ : ∃ B, B = h8 b := ⟨_, rfl⟩
  rw [← hA, ← hB] at LM LN EI
  rw [← hA] at DA
  rw [← hB] at DB
  clear hA hB hsa hsb hsas hsbs h1 h2
  go_enter Tryd.func5, Tryd.ntmps5
  go_wp2_with (first
    | (go_at_call 9; (with_reducible refine (DB.out _ (HT.out.below hb1)).mono ?_); rintro e w2 ⟨v2, rfl, hO2, hb2⟩; obtain ⟨g2, cap2, rfl, hgB2, hc36', hcm2, hrow2⟩ := own_some hO2 (by decide); clear hO2)
    | (go_at_call 9; (with_reducible refine DA.out.mono ?_); rintro e w1 ⟨v1, rfl, hO1, hb1⟩; obtain ⟨g, cap, rfl, hgB, hc36, hcm, hrow⟩ := own_some hO1 (by decide); clear hO1))
  have hrow1 := hrow.below hb2 hrow.lt
  have b1 := hb1.trans (hb2.mono hb1.size)
  unfold maxLen at hcm hcm2
  clear hb1 hb2 hgB hgB2 DA hrow
  go_loopw [7, 8, 34] (fun x y i wr => ∃ j : Nat, ∃ lb mb : Bool, j ≤ 36 ∧ i = .int .i64 j ∧ x = .bool lb ∧ y = .bool mb ∧ Hid (lb = lessB A B j) ∧ Hid (mb = lessB B A j) ∧ Row wr g 3 cap (digL A 36) ∧ Row wr g2 3 cap2 (digL B 36) ∧ Below w.heap.size w wr) (fun _ _ i _ => 36 - (intOf i).toNat)
  case atStart => exact ⟨0, false, false, Nat.zero_le _, rfl, rfl, rfl, Lib.hid rfl, Lib.hid rfl, hrow1, hrow2, b1⟩
  case round =>
    clear b1 hrow1 hrow2
    obtain ⟨j, lb, mb, hj, rfl, rfl, rfl, hlb, hmb, hr1, hr2, hb⟩ := hrel
    by_cases hlt : j < 36
    · have c1 := hr1.cellAt (digL_get A 36 j hlt)
      have c2 := hr2.cellAt (digL_get B 36 j hlt)
      have d1 := dgs_le A j
      have d2 := dgs_le B j
      have L1 : Hid ((lb || decide (dgs A j < dgs B j)) = lessB A B (j + 1)) := Lib.hid (by rw [hlb.out]; rfl)
      have L2 : Hid ((mb || decide (dgs B j < dgs A j)) = lessB B A (j + 1)) := Lib.hid (by rw [hmb.out]; rfl)
      obtain ⟨x, hx⟩ : ∃ x, x = dgs A j := ⟨_, rfl⟩
      obtain ⟨y, hy⟩ : ∃ y, y = dgs B j := ⟨_, rfl⟩
      rw [← hx, ← hy] at L1 L2
      rw [← hx] at c1 d1
      rw [← hy] at c2 d2
      clear hx hy
      go_upto_region 12 with fail
      cases lb with
      | true =>
        cases mb with
        | true =>
          go_quiet (fail)
          go_wp2
          go_roundw
          case rel => exact ⟨j + 1, true, true, by omega, by go_num, rfl, rfl, L1, L2, hr1, hr2, bdrewN hb _⟩
          case measure => simp [intOf]; omega
        | false =>
          go_quiet (fail)
          go_wp2
          go_roundw
          case rel => exact ⟨j + 1, true, decide (y < x), by omega, by go_num, rfl, rfl, L1, L2, hr1, hr2, bdrewN hb _⟩
          case measure => simp [intOf]; omega
      | false =>
        cases mb with
        | true =>
          go_quiet (fail)
          go_wp2
          go_roundw
          case rel => exact ⟨j + 1, decide (x < y), true, by omega, by go_num, rfl, rfl, L1, L2, hr1, hr2, bdrewN hb _⟩
          case measure => simp [intOf]; omega
        | false =>
          go_quiet (fail)
          go_wp2
          go_roundw
          case rel => exact ⟨j + 1, decide (x < y), decide (y < x), by omega, by go_num, rfl, rfl, L1, L2, hr1, hr2, bdrewN hb _⟩
          case measure => simp [intOf]; omega
    · obtain rfl : j = 36 := by omega
      have hlm : lb = mb := by rw [hlb.out, hmb.out]; exact LM.out
      subst hlm
      obtain ⟨xa, hxa⟩ : ∃ xa, sa.extract 0 8 = xa := ⟨_, rfl⟩
      obtain ⟨xb, hxb⟩ : ∃ xb, sb.extract 0 8 = xb := ⟨_, rfl⟩
      have EI' := EI.out
      rw [hxa, hxb] at EI'
      have hne0 : (xa.toList != xb.toList) = lb := by
        rw [Bool.eq_iff_iff, hlb.out, LN.out, bne_iff_ne, ne_eq, EI']
      have hne : (xa.toList == xb.toList) = !lb := by
        rw [← hne0]; simp [bne]
      clear hne0
      have tl : (lb == lb) = true := by simp
      clear EI' hlb hmb hr1 hr2
      go_upto_region 14 with fail
      refine wp_region_plan (fun _ => True) [] (.take 0 (.take 1 (.take 2 (.take 3 (.take 4 (.take 5 (.take 8 (.ask 6 false (.take 7 (.ask 9 false (.take 10 (.take 11 (.take 12 (.take 13 (.take 14 (.ask 15 false (.take 16 (.take 17 .stop)) .stop)))))) .stop)) .stop)))))))) (by kernel_rfl) (by kernel_rfl) (fun _ d _ _ _ h => by cases d <;> exact h) trivial ?_
      have hbd := hb.drew
      generalize wr.drew = wd at hbd ⊢
      refine take_any _ ?_ rfl rfl ?_ (fun K hK => ?_); rotate_left; (intro w0; go_simp; (try rfl)); (go_simp; refine hK _ ?_; clear hK K)
      refine take_any _ ?_ rfl rfl ?_ (fun K hK => ?_); rotate_left; (intro w0; go_simp; (try rfl)); (go_simp; refine hK _ ?_; clear hK K)
      refine take_any _ ?_ rfl rfl ?_ (fun K hK => ?_); rotate_left; (intro w0; go_simp; (try rfl)); (go_simp; refine hK _ ?_; clear hK K)
      refine take_any _ ?_ rfl rfl ?_ (fun K hK => ?_); rotate_left; (intro w0; go_simp; (try rfl)); (go_simp; refine hK _ ?_; clear hK K)
      refine take_any _ ?_ rfl rfl ?_ (fun K hK => ?_); rotate_left; (intro w0; go_simp; (try rfl)); (go_simp; refine hK _ ?_; clear hK K)
      refine take_any _ ?_ rfl rfl ?_ (fun K hK => ?_); rotate_left; (intro w0; go_simp; (try rfl)); (go_simp; refine hK _ ?_; clear hK K)
      refine take_any _ ?_ rfl rfl ?_ (fun K hK => ?_); rotate_left; (intro w0; go_simp; (try rfl)); (go_simp; refine hK _ ?_; clear hK K)
      refine ask_late _ rfl trivial ?_; go_wp2_with (go_at_call 23; (with_reducible refine (SA.out _).mono ?_); rintro e w3 ⟨rfl, hb3⟩); refine Seg.mk ?_
      have B3 := hbd.trans (hb3.mono hbd.size)
      refine take_any _ ?_ rfl rfl ?_ (fun K hK => ?_); rotate_left; (intro w0; go_simp; (try rfl)); (go_simp; refine hK _ ?_; clear hK K)
      refine ask_late _ rfl trivial ?_; go_wp2_with (go_at_call 23; (with_reducible refine (SB.out _).mono ?_); rintro e w4 ⟨rfl, hb4⟩); refine Seg.mk ?_
      have B4 := B3.trans (hb4.mono B3.size)
      refine take_any _ ?_ rfl rfl ?_ (fun K hK => ?_); rotate_left; (intro w0; go_simp; (try rfl)); (go_simp; refine hK _ ?_; clear hK K)
      refine take_any _ ?_ rfl rfl ?_ (fun K hK => ?_); rotate_left; (intro w0; go_simp; (try rfl)); (go_simp; refine hK _ ?_; clear hK K)
      refine take_any _ ?_ rfl rfl ?_ (fun K hK => ?_); rotate_left; (intro w0; go_simp; (try rfl)); (go_simp; refine hK _ ?_; clear hK K)
      refine take_any _ ?_ rfl rfl ?_ (fun K hK => ?_); rotate_left; (intro w0; go_simp; (try rfl)); (go_simp; refine hK _ ?_; clear hK K)
      refine take_any _ ?_ rfl rfl ?_ (fun K hK => ?_); rotate_left; (intro w0; go_simp; (try rfl)); (go_simp; refine hK _ ?_; clear hK K)
      refine ask_late _ rfl trivial ?_; go_wp2_with (go_at_call 8; (with_reducible refine (AW.out _ (stab_of HT.out B4 (Nat.le_refl _))).mono ?_); rintro e w5 ⟨rfl, hb5⟩); refine Seg.mk ?_
      have B5 := B4.trans (hb5.mono B4.size)
      refine take_any _ ?_ rfl rfl ?_ (fun K hK => ?_); rotate_left; (intro w0; go_simp; (try rfl)); (go_simp; refine hK _ ?_; clear hK K)
      refine take_any _ ?_ rfl rfl ?_ (fun K hK => ?_); rotate_left; (intro w0; go_simp; (try rfl)); (go_simp; refine hK _ ?_; clear hK K)
      unfold wpPlan
      go_wp2
      go_ret
      exact ⟨rfl, B5⟩
end Go.Proofs.YtgoecmpbobablaaDoor
