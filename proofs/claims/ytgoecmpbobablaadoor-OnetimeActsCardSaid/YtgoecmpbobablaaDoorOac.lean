/- The walk of OnetimeActs: both sides return the same. -/
import Derived.Test.YtgoecmpbobablaaDoorOrc
import Derived.Test.YtgoecmpbobablaaDoorPlan
import Derived.Test.YtgoecmpbobablaaDoorSpoil
namespace Go.Proofs.YtgoecmpbobablaaDoor
open Go.ChangeShapes Go.WideShapes Go.ChangeAt Go.RowKit
set_option linter.unusedVariables false
set_option linter.unusedSimpArgs false

theorem recV_form (m vs : ByteArray) : ∃ (r : ByteArray) (e : Int), recV m vs = .tuple #[.string r, .int .i64 e] := by
  by_cases h : vs.size = 576
  · exact ⟨_, _, recV_ok h⟩
  · exact ⟨_, _, recV_no h⟩
set_option maxHeartbeats 1600000 in
set_option maxRecDepth 100000 in
theorem acts11_walk (seed m vals : ByteArray) (chain step at_ by_ : Int) (w : World) (h1 : -9223372036854775808 ≤ at_) (h2 : at_ ≤ 9223372036854775807) (hT : STab w) :
    Calls Tryd.prog 3 #[.string seed, .string m, .string vals, .int .i64 chain, .int .i64 step, .int .i64 at_, .int .i64 by_] w fun e w' => e = .returned (.bool true) ∧ Below w.heap.size w w' := by
  have AW := Lib.hid (fun (wx : World) (h : STab wx) => awake11_any wx h)
  have HT := Lib.hid hT
  clear hT
  by_cases k1 : 300 < seed.size
  · have h1i : (300 : Int) < (seed.size : Int) := by omega
    go_enter Tryd.func3, Tryd.ntmps3
    go_wp2_with (go_at_call 8; (with_reducible refine (AW.out _ HT.out).mono ?_); rintro e w1 ⟨rfl, hb1⟩)
    go_ret
    exact ⟨rfl, hb1⟩
  have h1i : ¬ (300 : Int) < (seed.size : Int) := by omega
  by_cases k2 : 500 < m.size
  · have h2i : (500 : Int) < (m.size : Int) := by omega
    go_enter Tryd.func3, Tryd.ntmps3
    go_wp2_with (go_at_call 8; (with_reducible refine (AW.out _ HT.out).mono ?_); rintro e w1 ⟨rfl, hb1⟩)
    go_ret
    exact ⟨rfl, hb1⟩
  have h2i : ¬ (500 : Int) < (m.size : Int) := by omega
  by_cases k3 : 1000 < vals.size
  · have h3i : (1000 : Int) < (vals.size : Int) := by omega
    go_enter Tryd.func3, Tryd.ntmps3
    go_wp2_with (go_at_call 8; (with_reducible refine (AW.out _ HT.out).mono ?_); rintro e w1 ⟨rfl, hb1⟩)
    go_ret
    exact ⟨rfl, hb1⟩
  have h3i : ¬ (1000 : Int) < (vals.size : Int) := by omega
  have DA := Lib.hid (digits_any m w (by omega) HT.out)
  have DB := Lib.hid (fun (wx : World) => rdigits_any m wx (by omega))
  have S1 := Lib.hid (fun (wx : World) (h : STab wx) => step_b seed chain step wx (by omega) h)
  have S2 := Lib.hid (fun (wx : World) => rstep_b seed chain step wx (by omega))
  have C1 := Lib.hid (fun (wx : World) (h : STab wx) => secret_b seed chain wx (by omega) h)
  have C2 := Lib.hid (fun (wx : World) => rsecret_b seed chain wx (by omega))
  have P1 := Lib.hid (fun (wx : World) (h : STab wx) => public_b seed wx (by omega) h)
  have P2 := Lib.hid (fun (wx : World) => rpublic_b seed wx (by omega))
  have G1 := Lib.hid (fun (wx : World) (h : STab wx) => sign_b seed m wx (by omega) (by omega) h)
  have G2 := Lib.hid (fun (wx : World) => rsign_b seed m wx (by omega) (by omega))
  have R1 := Lib.hid (fun (wx : World) (s : ByteArray) (h : STab wx) => recover_b m s wx (by omega) h)
  have R2 := Lib.hid (fun (wx : World) (s : ByteArray) => rrecover_b m s wx (by omega))
  have hgz := signB_size seed m
  obtain ⟨H, hH⟩ : ∃ H, H = h8 m := ⟨_, rfl⟩
  rw [← hH] at DA DB
  obtain ⟨gd, hgd⟩ : ∃ gd, gd = signB seed m := ⟨_, rfl⟩
  rw [← hgd] at G1 G2 hgz
  obtain ⟨sv, hsv⟩ : ∃ sv, sv = stB seed chain step := ⟨_, rfl⟩
  rw [← hsv] at S1 S2
  obtain ⟨cv, hcv⟩ : ∃ cv, cv = secB seed chain := ⟨_, rfl⟩
  rw [← hcv] at C1 C2
  obtain ⟨pv, hpv⟩ : ∃ pv, pv = pubB seed := ⟨_, rfl⟩
  rw [← hpv] at P1 P2
  have SP := Lib.hid (fun (wx : World) => spoil_any gd at_ by_ wx (by omega) h1 h2)
  clear hH hgd hsv hcv hpv k1 k2 k3 h1 h2
  go_enter Tryd.func3, Tryd.ntmps3
  go_wp2_with (first
    | (go_at_call 9; (with_reducible refine DA.out.mono ?_); rintro e w1 ⟨v1, rfl, hO1, hb1⟩; obtain ⟨g, cap, rfl, hgB, hc36, hcm, hrow⟩ := own_some hO1 (by decide); clear hO1)
    | (go_at_call 10; (with_reducible refine (DB.out _).mono ?_); rintro e w2 ⟨v2, rfl, hO2, hb2⟩; obtain ⟨g2, cap2, rfl, hgB2, hc36', hcm2, hrow2⟩ := own_some hO2 (by decide); clear hO2; have b2 := hb1.trans (hb2.mono hb1.size); have hrow1 := hrow.below hb2 hrow.lt)
    | (go_at_call 11; (with_reducible refine (S1.out _ (stab_of HT.out b2 (Nat.le_refl _))).mono ?_); rintro e w3 ⟨rfl, hb3⟩; have b3 := b2.trans (hb3.mono b2.size); have hr13 := hrow1.below hb3 hrow1.lt; have hr23 := hrow2.below hb3 hrow2.lt)
    | (go_at_call 12; (with_reducible refine (S2.out _).mono ?_); rintro e w4 ⟨rfl, hb4⟩; have b4 := b3.trans (hb4.mono b3.size); have hr14 := hr13.below hb4 hr13.lt; have hr24 := hr23.below hb4 hr23.lt)
    | (go_at_call 13; (with_reducible refine (C1.out _ (stab_of HT.out b4 (Nat.le_refl _))).mono ?_); rintro e w5 ⟨rfl, hb5⟩; have b5 := b4.trans (hb5.mono b4.size); have hr15 := hr14.below hb5 hr14.lt; have hr25 := hr24.below hb5 hr24.lt)
    | (go_at_call 14; (with_reducible refine (C2.out _).mono ?_); rintro e w6 ⟨rfl, hb6⟩; have b6 := b5.trans (hb6.mono b5.size); have hr16 := hr15.below hb6 hr15.lt; have hr26 := hr25.below hb6 hr25.lt)
    | (go_at_call 15; (with_reducible refine (P1.out _ (stab_of HT.out b6 (Nat.le_refl _))).mono ?_); rintro e w7 ⟨rfl, hb7⟩; have b7 := b6.trans (hb7.mono b6.size); have hr17 := hr16.below hb7 hr16.lt; have hr27 := hr26.below hb7 hr26.lt)
    | (go_at_call 16; (with_reducible refine (P2.out _).mono ?_); rintro e w8 ⟨rfl, hb8⟩; have b8 := b7.trans (hb8.mono b7.size); have hr18 := hr17.below hb8 hr17.lt; have hr28 := hr27.below hb8 hr27.lt))
  unfold maxLen at hcm hcm2
  clear hgB hgB2 hrow hrow1 hrow2 hr13 hr23 hr14 hr24 hr15 hr25 hr16 hr26 hr17 hr27 hb1 hb2 hb3 hb4 hb5 hb6 hb7 hb8 b2 b3 b4 b5 b6 b7
  have b8s := b8.size
  go_loopw [78] (fun i wr => ∃ j : Nat, j ≤ 36 ∧ i = .int .i64 j ∧ wr = w8) (fun i _ => 36 - (intOf i).toNat)
  case atStart => exact ⟨0, Nat.zero_le _, rfl, rfl⟩
  case round =>
    obtain ⟨j, hj, rfl, rfl⟩ := hrel
    by_cases hlt : j < 36
    · have c1 := hr18.cellAt (digL_get H 36 j hlt)
      have c2 := hr28.cellAt (digL_get H 36 j hlt)
      obtain ⟨d, hd⟩ : ∃ d, d = dgs H j := ⟨_, rfl⟩
      rw [← hd] at c1 c2
      clear hd
      go_wp2
      go_roundw
      case rel => exact ⟨j + 1, by omega, by go_num, trivial⟩
      case measure => simp [intOf]; omega
    · obtain rfl : j = 36 := by omega
      have tg : (gd.toList != gd.toList) = false := by simp
      go_upto_region 15 with (first
        | (go_at_call 18; (with_reducible refine (G1.out _ (stab_of HT.out bG (Nat.le_refl _))).mono ?_); rintro e wB ⟨rfl, hbB⟩; have bB := bG.trans (hbB.mono bG.size))
        | (go_at_call 17; (with_reducible refine (G2.out _).mono ?_); rintro e wA ⟨rfl, hbA⟩; have bG := b8.trans (hbA.mono b8.size)))
      obtain ⟨g1, hg1⟩ : ∃ g1, gd.extract 0 575 = g1 := ⟨_, rfl⟩
      obtain ⟨gx, hgx⟩ : ∃ gx, gd ++ { data := #[120] } = gx := ⟨_, rfl⟩
      clear b8 hr18 hr28 hlt hj
      refine wp_region_plan (fun _ => True) [] (.take 0 (.take 1 (.take 2 (.take 3 (.take 4 (.take 6 (.take 7 (.take 8 (.take 9 (.take 10 (.take 11 (.take 12 (.take 15 (.ask 5 false (.ask 13 false (.take 14 .stop) .stop) .stop)))))))))))))) (by kernel_rfl) (by kernel_rfl) (fun _ d _ _ _ h => by cases d <;> exact h) trivial ?_
      have hbd := bB.drew
      generalize wB.drew = wd at hbd ⊢
      refine take_any _ ?_ rfl rfl ?_ (fun K hK => ?_); rotate_left; (intro w0; go_simp; (try rfl)); (go_simp; refine hK _ ?_; clear hK K)
      refine take_any _ ?_ rfl rfl ?_ (fun K hK => ?_); rotate_left; (intro w0; go_simp; (try rfl)); (go_simp; refine hK _ ?_; clear hK K)
      refine take_any _ ?_ rfl rfl ?_ (fun K hK => ?_); rotate_left; (intro w0; go_simp; (try rfl)); (go_simp; refine hK _ ?_; clear hK K)
      refine take_any _ ?_ rfl rfl ?_ (fun K hK => ?_); rotate_left; (intro w0; go_simp; (try rfl)); (go_simp; refine hK _ ?_; clear hK K)
      refine take_any _ ?_ rfl rfl ?_ (fun K hK => ?_); rotate_left; (intro w0; go_simp; (try rfl)); (go_simp; refine hK _ ?_; clear hK K)
      refine take_any _ ?_ rfl rfl ?_ (fun K hK => ?_); rotate_left; (intro w0; go_simp; (try rfl)); (go_simp; refine hK _ ?_; clear hK K)
      refine take_any _ ?_ rfl rfl ?_ (fun K hK => ?_); rotate_left; (intro w0; go_simp; (try rfl)); (go_simp; refine hK _ ?_; clear hK K)
      refine take_any _ ?_ rfl rfl ?_ (fun K hK => ?_); rotate_left; (intro w0; go_simp; (try rfl)); (go_simp; refine hK _ ?_; clear hK K)
      refine take_any _ ?_ rfl rfl ?_ (fun K hK => ?_); rotate_left; (intro w0; go_simp; (try rfl)); (go_simp; refine hK _ ?_; clear hK K)
      refine take_any _ ?_ rfl rfl ?_ (fun K hK => ?_); rotate_left; (intro w0; go_simp; (try rfl)); (go_simp; refine hK _ ?_; clear hK K)
      refine take_any _ ?_ rfl rfl ?_ (fun K hK => ?_); rotate_left; (intro w0; go_simp; (try rfl)); (go_simp; refine hK _ ?_; clear hK K)
      refine take_any _ ?_ rfl rfl ?_ (fun K hK => ?_); rotate_left; (intro w0; go_simp; (try rfl)); (go_simp; refine hK _ ?_; clear hK K)
      refine take_any _ ?_ rfl rfl ?_ (fun K hK => ?_); rotate_left; (intro w0; go_simp; (try rfl)); (go_simp; refine hK _ ?_; clear hK K)
      refine ask_late _ rfl trivial ?_; go_wp2_with (go_at_call 19; (with_reducible refine (SP.out _).mono ?_); rintro e wS ⟨sp, rfl, hsps, hbS⟩); refine Seg.mk ?_
      have bS := hbd.trans (hbS.mono hbd.size)
      refine ask_late _ rfl trivial ?_; go_wp2_with fail; refine Seg.mk ?_
      refine take_any _ ?_ rfl rfl ?_ (fun K hK => ?_); rotate_left; (intro w0; go_simp; (try rfl)); (go_simp; refine hK _ ?_; clear hK K)
      unfold wpPlan
      have bW := bS.alloc (o := .cells #[.string gd, .string vals, .string sp, .string (gd.extract 0 575), .string gx] 9) bS.size
      have CE : Hid (∀ j : Nat, j < 5 → ∃ s : ByteArray, (wS.alloc (.cells #[.string gd, .string vals, .string sp, .string (gd.extract 0 575), .string gx] 9)).cell? ⟨wS.heap.size, j, none⟩ = some (.string s)) := Lib.hid (fun j hj => by
        have hc := cells_new wS #[.string gd, .string vals, .string sp, .string (gd.extract 0 575), .string gx] 9 _ rfl j
        simp only [Addr.add, Nat.zero_add] at hc
        rcases (show j = 0 ∨ j = 1 ∨ j = 2 ∨ j = 3 ∨ j = 4 by omega) with rfl | rfl | rfl | rfl | rfl
        · exact ⟨_, hc _ rfl⟩
        · exact ⟨_, hc _ rfl⟩
        · exact ⟨_, hc _ rfl⟩
        · exact ⟨_, hc _ rfl⟩
        · exact ⟨_, hc _ rfl⟩)
      have hgl : wS.heap.size < (wS.alloc (.cells #[.string gd, .string vals, .string sp, .string (gd.extract 0 575), .string gx] 9)).heap.size := by simp
      generalize wS.alloc (.cells #[.string gd, .string vals, .string sp, .string (gd.extract 0 575), .string gx] 9) = wq at bW CE hgl ⊢
      generalize wS.heap.size = gl at CE hgl ⊢
      have HGL := Lib.hid hgl
      clear hgl bS hbS hsps hg1 hgx bB bG hbA hbB hbd
      go_wp2
      go_loopw [113] (fun i wr => ∃ j : Nat, j ≤ 5 ∧ i = .int .i64 j ∧ Below wq.heap.size wq wr ∧ Below w.heap.size w wr) (fun i _ => 5 - (intOf i).toNat)
      case atStart => exact ⟨0, Nat.zero_le _, rfl, Below.refl _ _, bW⟩
      case round =>
        clear bW
        obtain ⟨j, hj, rfl, hbq, hb⟩ := hrel
        by_cases hlt : j < 5
        · obtain ⟨s, hs⟩ := CE.out j hlt
          have hcell := (hbq.cell (p := ⟨gl, j, none⟩) HGL.out).trans hs
          obtain ⟨r, e0, hre⟩ := recV_form m s
          have Q1 := Lib.hid (R1.out wr s (stab_of HT.out hb (Nat.le_refl _)))
          have Q2 := Lib.hid (fun wx => R2.out wx s)
          rw [hre] at Q1 Q2
          have tr : (r.toList != r.toList) = false := by simp
          have te : (e0 != e0) = false := by simp
          clear hs hre
          go_wp2_with (first
            | (go_at_call 20; (with_reducible refine Q1.out.mono ?_); rintro e w1 ⟨rfl, hb1⟩)
            | (go_at_call 21; (with_reducible refine (Q2.out _).mono ?_); rintro e w2 ⟨rfl, hb2⟩; have hb12 := hb1.trans (hb2.mono hb1.size)))
          go_roundw
          case rel => exact ⟨j + 1, by omega, by go_num, hbq.trans (hb12.mono hbq.size), hb.trans (hb12.mono hb.size)⟩
          case measure => simp [intOf]; omega
        · obtain rfl : j = 5 := by omega
          go_wp2_with (go_at_call 8; (with_reducible refine (AW.out _ (stab_of HT.out hb (Nat.le_refl _))).mono ?_); rintro e w1 ⟨rfl, hb1⟩)
          go_ret
          exact ⟨rfl, hb.trans (hb1.mono hb.size)⟩
end Go.Proofs.YtgoecmpbobablaaDoor
