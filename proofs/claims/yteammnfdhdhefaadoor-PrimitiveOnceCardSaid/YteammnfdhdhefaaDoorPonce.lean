/- The walk of the statement PrimitiveOnce: whatever list of numbers and whatever two numbers come in, the Go text returns true, provided that both tables read as the program lays them. -/
import Derived.Test.YteammnfdhdhefaaDoorPawk
import Derived.Test.YteammnfdhdhefaaDoorPmath
import Derived.Test.YteammnfdhdhefaaDoorPkit
namespace Go.Proofs.YteammnfdhdhefaaDoor
open Go.ChangeShapes Go.WideShapes Go.ChangeAt Go.RowKit
set_option linter.unusedVariables false
set_option linter.unusedSimpArgs false

set_option maxHeartbeats 1600000 in
set_option maxRecDepth 100000 in
theorem ponce_walk (a : Option Addr) (len cap : Nat) (zs : List Int) (at_ by_ : Int) (w : World) (hn : NumsB w.heap.size w a len cap zs) (k1 : -9223372036854775808 ≤ at_) (k2 : at_ ≤ 9223372036854775807) (hT : Tab w) (hL : Lay w) :
    Calls Tryd.prog 6 #[.slice a len cap, .int .i64 at_, .int .i64 by_] w fun e w' => e = .returned (.bool true) ∧ Below w.heap.size w w' := by
  have AW := Lib.hid (fun (wx : World) (hx : Lay wx) => awake3_any wx hx)
  have LI := Lib.hid (fun wx : World => light_any a len cap wx)
  have RO := Lib.hid (roll_any a len cap zs w hn)
  have hLT := hL.lt
  have hTT := hT.lt
  have HL := Lib.hid hL
  have HT := Lib.hid hT
  clear hL hT hn
  have hB := Below.refl w.heap.size w
  by_cases h500 : (len : Int) ≤ 500
  · rw [decide_eq_true h500] at LI
    clear h500 hB
    go_enter Tryd.func6, Tryd.ntmps6
    go_upto_region 4 with (first
      | (go_at_call 9; (with_reducible refine (LI.out _).mono ?_); rintro e w3 ⟨rfl, rfl⟩)
      | (go_at_call 11; (with_reducible refine (RO.out).mono ?_); rintro e w1 ⟨rfl, hb1, hd1⟩)
      | (go_at_call 12; (with_reducible refine (prim_any _ _ _ hd1).mono ?_); rintro e wp ⟨⟨c, raw, c1, c8, hraw, rfl⟩, hgp, hdp⟩; have hB : Below w.heap.size w wp := gbelow hb1 hgp hb1.size (Nat.le_refl _))
      | (go_at_call 14; (with_reducible refine (yprim_any _ _ _ (by unfold maxLen; omega) (HL.out.below hLT hB)).mono ?_); rintro e wn ⟨rfl, hb⟩; replace hB := hB.trans (hb.mono hB.size); clear hb))
    clear hb1 hd1 hgp hdp LI RO
    by_cases hs : raw.size = rawN c
    · have hpr : IsPrim c raw := ⟨c1, c8, hs⟩
      rw [hpr.primS, hpr.primE]
      have hTz := hpr.txt_size
      have hz836 := (size_four c c1 c8).2.2.1
      have hdec := hpr.txt_dec
      obtain ⟨T, hTe⟩ : ∃ T, T = txt c raw := ⟨_, rfl⟩
      rw [← hTe] at hTz hdec
      rw [← hTe]
      have HDT := Lib.hid hdec
      have SP := Lib.hid (fun wx : World => spoil_any T at_ by_ wx (by rw [hTz]; omega) k1 k2)
      clear hpr hTe hdec k1 k2
      go_upto_region 7 with (go_at_call 17; (with_reducible refine (SP.out _).mono ?_); rintro e wn ⟨x, rfl, hxs, hb⟩; replace hB := hB.trans (hb.mono hB.size); clear hb)
      have D := fun (wx : World) (hx : Tab wx) (hy : Lay wx) => ydecp_any x wx (by rw [hxs, hTz]; unfold maxLen; omega) hx hy
      rw [decP_parts] at D
      have herr := err_read x
      have hone := once_read x
      have hsame : (decQ x).e ≠ 0 → (x.toList == T.toList) = false := fun h => other_str (fun e => by rw [e, HDT.out] at h; exact h rfl)
      obtain ⟨Q, hQ⟩ : ∃ Q, Q = decQ x := ⟨_, rfl⟩
      rw [← hQ] at D herr hone hsame
      have D' := Lib.hid D
      clear hQ D SP HDT
      by_cases hE : Q.e = 0
      · obtain ⟨d, hdc, hdp, hdn, hds, hdt⟩ := hone hE
        have hd1 := hdp.c1
        have hd8 := hdp.c8
        have EN := fun (wx : World) (hx : Lay wx) => yprim_any (d : Int) Q.raw wx (by rw [hdp.size]; have := hdp.rawpos; unfold maxLen; omega) hx
        rw [hdp.primS, hdp.primE] at EN
        have hxe : txt d Q.raw = x.extract 0 (sizeN d) := by
          apply ByteArray.ext
          apply Array.toList_inj.1
          rw [ext_data, List.drop_zero, hdt]
          rfl
        have hq := same_str hxe
        obtain ⟨r, hr⟩ : ∃ r, r = Q.raw := ⟨_, rfl⟩
        obtain ⟨U, hU⟩ : ∃ U, U = txt d Q.raw := ⟨_, rfl⟩
        rw [← hU] at EN hq
        rw [← hr] at EN
        have D2 := D'.out
        rw [hE, hdc, hdn, ← hr] at D2
        have D3 := Lib.hid D2
        obtain ⟨n, hn⟩ : ∃ n, n = sizeN d := ⟨_, rfl⟩
        rw [← hn] at hq hds
        rw [← hn] at D3
        have EN' := Lib.hid EN
        have hn0 : (0 : Int) ≤ (n : Int) := by omega
        have hnx : (n : Int) ≤ (x.size : Int) := by omega
        clear herr hone hsame hdc hdp hdn hdt D' D2 EN hU hxe hr hn hE
        go_upto_region 8 with (go_at_call 19; (with_reducible refine (D3.out _ (HT.out.below hTT hB) (HL.out.below hLT hB)).mono ?_); rintro e wn ⟨rfl, hb⟩; replace hB := hB.trans (hb.mono hB.size); clear hb)
        have hP := two_new wn (.int .i64 (d : Int)) (.string r) 24
        replace hB := hB.alloc (o := .cells #[.int .i64 (d : Int), .string r] 24) hB.size
        go_wp2_with (first
          | (go_at_call 14; (with_reducible refine (EN'.out _ (HL.out.below hLT hB)).mono ?_); rintro e wn ⟨rfl, hb⟩; replace hB := hB.trans (hb.mono hB.size); clear hb)
          | (go_at_call 10; (with_reducible refine (AW.out _ (HL.out.below hLT hB)).mono ?_); rintro e wn ⟨rfl, hb⟩; replace hB := hB.trans (hb.mono hB.size); clear hb))
        go_ret
        exact ⟨rfl, hB⟩
      · have hn := herr hE
        have hx := hsame hE
        have hed : (Q.e != 0) = true := by simp [hE]
        obtain ⟨E, hEe⟩ : ∃ E, E = Q.e := ⟨_, rfl⟩
        obtain ⟨r, hr⟩ : ∃ r, r = Q.raw := ⟨_, rfl⟩
        obtain ⟨d, hd⟩ : ∃ d, d = Q.c := ⟨_, rfl⟩
        have D2 := D'.out
        rw [hn, ← hEe, ← hr, ← hd] at D2
        rw [← hEe] at hed
        have D3 := Lib.hid D2
        clear herr hone hsame D' D2 hE hEe hr hd hn
        go_upto_region 8 with (go_at_call 19; (with_reducible refine (D3.out _ (HT.out.below hTT hB) (HL.out.below hLT hB)).mono ?_); rintro e wn ⟨rfl, hb⟩; replace hB := hB.trans (hb.mono hB.size); clear hb)
        replace hB := hB.alloc (o := .cells #[.int .i64 d, .string r] 24) hB.size
        go_wp2_with (go_at_call 10; (with_reducible refine (AW.out _ (HL.out.below hLT hB)).mono ?_); rintro e wn ⟨rfl, hb⟩; replace hB := hB.trans (hb.mono hB.size); clear hb)
        go_ret
        exact ⟨rfl, hB⟩
    · rw [(notPrim c1 c8 hs).1, (notPrim c1 c8 hs).2]
      clear hs k1 k2
      go_wp2_with (go_at_call 10; (with_reducible refine (AW.out _ (HL.out.below hLT hB)).mono ?_); rintro e wn ⟨rfl, hb⟩; replace hB := hB.trans (hb.mono hB.size); clear hb)
      go_ret
      exact ⟨rfl, hB⟩
  · rw [decide_eq_false h500] at LI
    clear h500 k1 k2
    go_enter Tryd.func6, Tryd.ntmps6
    go_wp2_with (first
      | (go_at_call 9; (with_reducible refine (LI.out _).mono ?_); rintro e w3 ⟨rfl, rfl⟩)
      | (go_at_call 10; (with_reducible refine (AW.out _ (HL.out.below hLT hB)).mono ?_); rintro e wn ⟨rfl, hb⟩; replace hB := hB.trans (hb.mono hB.size); clear hb))
    go_ret
    exact ⟨rfl, hB⟩

end Go.Proofs.YteammnfdhdhefaaDoor
