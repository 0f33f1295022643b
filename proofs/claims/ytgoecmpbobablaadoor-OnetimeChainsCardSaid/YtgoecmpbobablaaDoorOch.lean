/- The walk of OnetimeChains: three steps from each secret lead to the ends, and each value of a signature is on its way. -/
import Derived.Test.YtgoecmpbobablaaDoorOrc
namespace Go.Proofs.YtgoecmpbobablaaDoor
open Go.ChangeShapes Go.WideShapes Go.ChangeAt Go.RowKit
set_option linter.unusedVariables false
set_option linter.unusedSimpArgs false

set_option maxHeartbeats 1600000 in
set_option maxRecDepth 100000 in
theorem chains_walk (seed m : ByteArray) (w : World) (hT : STab w) :
    Calls Tryd.prog 6 #[.string seed, .string m] w fun e w' => e = .returned (.bool true) ∧ Below w.heap.size w w' := by
  have AW := Lib.hid (fun (wx : World) (h : STab wx) => awake11_any wx h)
  have HT := Lib.hid hT
  clear hT
  by_cases h1 : 200 < seed.size
  · have h1i : (200 : Int) < (seed.size : Int) := by omega
    go_enter Tryd.func6, Tryd.ntmps6
    go_wp2_with (go_at_call 8; (with_reducible refine (AW.out _ HT.out).mono ?_); rintro e w1 ⟨rfl, hb1⟩)
    go_ret
    exact ⟨rfl, hb1⟩
  by_cases h2 : 300 < m.size
  · have h1i : ¬ (200 : Int) < (seed.size : Int) := by omega
    have h2i : (300 : Int) < (m.size : Int) := by omega
    go_enter Tryd.func6, Tryd.ntmps6
    go_wp2_with (go_at_call 8; (with_reducible refine (AW.out _ HT.out).mono ?_); rintro e w1 ⟨rfl, hb1⟩)
    go_ret
    exact ⟨rfl, hb1⟩
  have h1i : ¬ (200 : Int) < (seed.size : Int) := by omega
  have h2i : ¬ (300 : Int) < (m.size : Int) := by omega
  have SG := Lib.hid (sign_b seed m w (by omega) (by omega) HT.out)
  have DG := Lib.hid (fun (wx : World) (h : STab wx) => digits_any m wx (by omega) h)
  have SC := Lib.hid (fun (wx : World) (c : Int) (h : STab wx) => secret_b seed c wx (by omega) h)
  have ST := Lib.hid (fun (wx : World) (v : ByteArray) (c p : Int) (hv : v.size = 16) (h : STab wx) => step_b v c p wx (by omega) h)
  have PB := Lib.hid (fun (wx : World) (h : STab wx) => public_b seed wx (by omega) h)
  have hsz := signB_size seed m
  have SPt := Lib.hid (signB_part seed m)
  obtain ⟨H, hH⟩ : ∃ H, H = h8 m := ⟨_, rfl⟩
  rw [← hH] at DG SPt
  obtain ⟨sg, hsg⟩ : ∃ sg, sg = signB seed m := ⟨_, rfl⟩
  rw [← hsg] at SG SPt hsz
  have hz1 : ((sg.size : Int) != 576) = false := by rw [hsz]; rfl
  have HSZ := Lib.hid hsz
  obtain ⟨G, hG⟩ : ∃ G : Nat → ByteArray, G = fun c : Nat => wkB (secB seed c) c 0 3 := ⟨_, rfl⟩
  have HGv : Hid (∀ j : Nat, wkB (secB seed j) j 0 3 = G j) := Lib.hid fun j => by rw [hG]
  have HGs : Hid (∀ j, (catB G j).size = 16 * j) := Lib.hid (catB_size G fun i => by rw [hG]; exact wkB_size _ _ _ _ (stB_size _ _ _))
  have HG1 : Hid (∀ j, (G j).size = 16) := Lib.hid (fun i => by rw [hG]; exact wkB_size _ _ _ _ (stB_size _ _ _))
  have HC : Hid (∀ j, catB G j ++ G j = catB G (j + 1)) := Lib.hid fun j => rfl
  have HP : Hid (pubB seed = shB (catB G 36)) := Lib.hid (by rw [hG]; rfl)
  have SZ : Hid (∀ c, (secB seed c).size = 16) := Lib.hid fun c => stB_size _ _ _
  clear hH hsg hsz hG h1 h2
  go_enter Tryd.func6, Tryd.ntmps6
  go_wp2_with (first
    | (go_at_call 18; (with_reducible refine SG.out.mono ?_); rintro e w1 ⟨rfl, hb1⟩)
    | (go_at_call 9; (with_reducible refine (DG.out _ (HT.out.below hb1)).mono ?_); rintro e w2 ⟨v2, rfl, hO2, hb2⟩; obtain ⟨g, cap, rfl, hgB, hc36, hcm, hrow⟩ := own_some hO2 (by decide); clear hO2))
  have b1 := hb1.trans (hb2.mono hb1.size)
  unfold maxLen at hcm
  clear hb1 hb2 hgB SG
  go_loopw [7, 33] (fun x i wr => ∃ j : Nat, ∃ q : ByteArray, j ≤ 36 ∧ i = .int .i64 j ∧ x = .string q ∧ Hid (q = catB G j) ∧ Row wr g 3 cap (digL H 36) ∧ Below w.heap.size w wr) (fun _ i _ => 36 - (intOf i).toNat)
  case atStart => exact ⟨0, _, Nat.zero_le _, rfl, rfl, Lib.hid rfl, hrow, b1⟩
  case round =>
    clear b1 hrow
    obtain ⟨j, q, hj, rfl, rfl, hq, hrow, hb⟩ := hrel
    have hqs : q.size ≤ 1000 := by rw [hq.out, HGs.out]; omega
    have hbs := hb.size
    by_cases hlt : j < 36
    · have C1 := Lib.hid (SC.out wr j (stab_of HT.out hb (Nat.le_refl _)))
      have hss := SZ.out (j : Int)
      obtain ⟨S, hS⟩ : ∃ S, S = secB seed j := ⟨_, rfl⟩
      rw [← hS] at C1 hss
      have KS : Hid (∀ n : Nat, stB (wkB S j 0 n) j n = wkB S j 0 (n + 1)) := Lib.hid fun n => by show _ = stB (wkB S j 0 n) j (0 + n); rw [Int.zero_add]
      have KZ : Hid (∀ n, (wkB S j 0 n).size = 16) := Lib.hid fun n => wkB_size _ _ _ _ hss
      obtain ⟨p1, hp1⟩ : ∃ p1, p1 = 16 * j := ⟨_, rfl⟩
      obtain ⟨p2, hp2⟩ : ∃ p2, p2 = 16 * j + 16 := ⟨_, rfl⟩
      obtain ⟨sv, hsv⟩ : ∃ sv, sg.extract p1 p2 = sv := ⟨_, rfl⟩
      have KP : Hid (sv = wkB S j 0 (dgs H j)) := Lib.hid (by rw [← hsv, hp1, hp2, SPt.out j hlt, hS])
      have KG : Hid (wkB S j 0 3 = G j) := Lib.hid (by rw [hS, HGv.out])
      have i1 : (j : Int) * 16 = (p1 : Int) := by omega
      have i2 : ((j : Int) + 1) * 16 = (p2 : Int) := by omega
      have l1 : (p1 : Int) ≤ (p2 : Int) := by omega
      have l2 : p2 ≤ sg.size := by rw [HSZ.out]; omega
      have hcell0 := hrow.cellAt (digL_get H 36 j hlt)
      have hdl := dgs_le H j
      obtain ⟨d, hd⟩ : ∃ d, d = dgs H j := ⟨_, rfl⟩
      rw [← hd] at hdl KP
      have HD := Lib.hid hd
      clear hS hss hp1 hp2 hcell0 hd
      go_wp2_with (go_at_call 13; (with_reducible refine C1.out.mono ?_); rintro e w1 ⟨rfl, hb1⟩)
      have hrow1 := hrow.below hb1 hrow.lt
      have hbw := hb.trans (hb1.mono hb.size)
      clear hrow hb hb1 hbs
      go_loopw [9, 39] (fun x i wr => ∃ p : Nat, ∃ v : ByteArray, p ≤ 4 ∧ i = .int .i64 p ∧ x = .string v ∧ Hid (v = wkB S j 0 (min p 3)) ∧ Row wr g 3 cap (digL H 36) ∧ Below w.heap.size w wr) (fun _ i _ => 4 - (intOf i).toNat)
      case atStart => exact ⟨0, S, by omega, rfl, rfl, Lib.hid rfl, hrow1, hbw⟩
      case round =>
        clear hrow1 hbw
        obtain ⟨p, v, hp, rfl, rfl, hv, hrow, hb⟩ := hrel
        have hvs : v.size = 16 := by rw [hv.out]; exact KZ.out _
        by_cases hp4 : p < 4
        · have hcell := hrow.cellAt (digL_get H 36 j hlt)
          rw [← HD.out] at hcell
          by_cases hp3 : p < 3
          · have C2 := Lib.hid (ST.out wr v j p hvs (stab_of HT.out hb (Nat.le_refl _)))
            rw [show stB v j p = wkB S j 0 (p + 1) by rw [hv.out, show min p 3 = p by omega]; exact KS.out p] at C2
            obtain ⟨v2, hv2⟩ : ∃ v2, v2 = wkB S j 0 (p + 1) := ⟨_, rfl⟩
            rw [← hv2] at C2
            have HV2 : Hid (v2 = wkB S j 0 (min (p + 1) 3)) := Lib.hid (by rw [show min (p + 1) 3 = p + 1 by omega]; exact hv2)
            clear hv2 hvs
            by_cases hpd : p = d
            · subst hpd
              have hve : sv = v := by rw [hv.out, KP.out, show min p 3 = p by omega]
              subst hve
              have hn : (sv.toList != sv.toList) = false := by simp
              go_wp2_with (go_at_call 11; (with_reducible refine C2.out.mono ?_); rintro e w2 ⟨rfl, hb2⟩)
              go_roundw
              case rel => exact ⟨p + 1, v2, by omega, by go_num, rfl, HV2, hrow.below hb2 hrow.lt, hb.trans (hb2.mono hb.size)⟩
              case measure => simp [intOf]; omega
            · have hn1 : ((p : Int) == (d : Int)) = false := by simp; omega
              have hn2 : ¬ (p : Int) = (d : Int) := by omega
              clear hpd
              go_wp2_with (go_at_call 11; (with_reducible refine C2.out.mono ?_); rintro e w2 ⟨rfl, hb2⟩)
              go_roundw
              case rel => exact ⟨p + 1, v2, by omega, by go_num, rfl, HV2, hrow.below hb2 hrow.lt, hb.trans (hb2.mono hb.size)⟩
              case measure => simp [intOf]; omega
          · have hp33 : p = 3 := by omega
            have HV2 : Hid (∀ v', v' = v → v' = wkB S j 0 (min (p + 1) 3)) := Lib.hid (fun v' e => by rw [e, hv.out, show min (p + 1) 3 = min p 3 by omega])
            have hp3i : ¬ (p : Int) < 3 := by omega
            clear hvs
            by_cases hpd : p = d
            · subst hpd
              have hve : sv = v := by rw [hv.out, KP.out, show min p 3 = p by omega]
              subst hve
              have hn : (sv.toList != sv.toList) = false := by simp
              clear hp33
              go_wp2
              go_roundw
              case rel => exact ⟨p + 1, _, by omega, by go_num, rfl, HV2.out _ rfl, hrow, hb⟩
              case measure => simp [intOf]; omega
            · have hn1 : ((p : Int) == (d : Int)) = false := by simp; omega
              have hn2 : ¬ (p : Int) = (d : Int) := by omega
              clear hpd
              clear hp33
              go_wp2
              go_roundw
              case rel => exact ⟨p + 1, _, by omega, by go_num, rfl, HV2.out _ rfl, hrow, hb⟩
              case measure => simp [intOf]; omega
        · obtain rfl : p = 4 := by omega
          have hvg : v = G j := by rw [hv.out]; exact KG.out
          have hgs : v.size ≤ 16 := by omega
          obtain ⟨q2, hq2⟩ : ∃ q2, q ++ v = q2 := ⟨_, rfl⟩
          have HQ : Hid (q2 = catB G (j + 1)) := Lib.hid (by rw [← hq2, hq.out, hvg]; exact HC.out j)
          clear hvg hvs
          go_wp2
          go_roundw
          case rel => exact ⟨j + 1, q2, by omega, by go_num, rfl, HQ, hrow, hb⟩
          case measure => simp [intOf]; omega
    · obtain rfl : j = 36 := by omega
      have C5 := Lib.hid (fun (wx : World) => rshort_b q wx (by omega))
      have HP2 : Hid (pubB seed = shB q) := Lib.hid (by rw [hq.out]; exact HP.out)
      rw [HP2.out] at PB
      obtain ⟨pb, hpb⟩ : ∃ pb, pb = shB q := ⟨_, rfl⟩
      rw [← hpb] at PB C5
      have t1 : (pb.toList == pb.toList) = true := by simp
      clear hpb
      go_wp2_with (first
        | (go_at_call 24; (with_reducible refine (C5.out _).mono ?_); rintro e w2 ⟨rfl, hb2⟩; have hb12 := hb.trans (hb2.mono hb.size))
        | (go_at_call 15; (with_reducible refine (PB.out _ (stab_of HT.out hb12 (Nat.le_refl _))).mono ?_); rintro e w3 ⟨rfl, hb3⟩; have hb13 := hb12.trans (hb3.mono hb12.size))
        | (go_at_call 8; (with_reducible refine (AW.out _ (stab_of HT.out hb13 (Nat.le_refl _))).mono ?_); rintro e w4 ⟨rfl, hb4⟩))
      go_ret
      exact ⟨rfl, hb13.trans (hb4.mono hb13.size)⟩
end Go.Proofs.YtgoecmpbobablaaDoor
