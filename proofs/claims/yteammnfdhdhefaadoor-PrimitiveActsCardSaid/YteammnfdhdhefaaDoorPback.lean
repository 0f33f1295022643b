/- The walk of the statement PrimitiveBack: whatever list of numbers and whatever string comes in, the Go text returns true, provided that both tables read as the program lays them. -/
import Derived.Test.YteammnfdhdhefaaDoorPawk
import Derived.Test.YteammnfdhdhefaaDoorPmath
import Derived.Test.YteammnfdhdhefaaDoorPkit
namespace Go.Proofs.YteammnfdhdhefaaDoor
open Go.ChangeShapes Go.WideShapes Go.ChangeAt Go.RowKit
set_option linter.unusedVariables false
set_option linter.unusedSimpArgs false

/-- A text of whole fours of digits goes into the binary form and back. -/
theorem bin_back (t : ByteArray) (q : Nat) (hq : q ≤ 20000) (hl : t.size = 4 * q) (ha : allD t.data.toList = true) :
    decFE t.data.toList = 0 ∧ (decFS t.data.toList).size = 3 * q ∧ encE (decFS t.data.toList).data.toList = 0 ∧ encS (decFS t.data.toList).data.toList = t := by
  have hl' : t.data.toList.length = 4 * q := by rw [len_is]; exact hl
  obtain ⟨e1, e2⟩ := dec_fours _ q hl' (by omega) ha
  have h3 := decL_length q _ hl'
  have e3 : (decFS t.data.toList).data.toList = decL t.data.toList := by rw [e2]; rfl
  obtain ⟨e4, e5⟩ := enc_threes (decL t.data.toList) q h3 (by omega)
  refine ⟨e1, by rw [e2, strL_size, h3], by rw [e3]; exact e4, ?_⟩
  rw [e3, e5, encL_decL q _ hl' ha, strL_list]

set_option maxHeartbeats 1600000 in
set_option maxRecDepth 100000 in
theorem pback_walk (a : Option Addr) (len cap : Nat) (zs : List Int) (after : ByteArray) (w : World) (hn : NumsB w.heap.size w a len cap zs) (ham : after.size ≤ maxLen) (hT : Tab w) (hL : Lay w) :
    Calls Tryd.prog 4 #[.slice a len cap, .string after] w fun e w' => e = .returned (.bool true) ∧ Below w.heap.size w w' := by
  unfold maxLen at ham
  have AW := Lib.hid (fun (wx : World) (hx : Lay wx) => awake3_any wx hx)
  have LI := Lib.hid (fun wx : World => light_any a len cap wx)
  have RO := Lib.hid (roll_any a len cap zs w hn)
  have hLT := hL.lt
  have hTT := hT.lt
  have HL := Lib.hid hL
  have HT := Lib.hid hT
  clear hL hT hn
  have hB := Below.refl w.heap.size w
  by_cases h500 : (len : Int) ≤ 500
  · rw [decide_eq_true h500] at LI
    by_cases h100 : after.size ≤ 100
    · have h100' : ¬ (100 : Int) < (after.size : Int) := by omega
      clear h500 hB
      go_enter Tryd.func4, Tryd.ntmps4
      go_upto_region 4 with (first
        | (go_at_call 9; (with_reducible refine (LI.out _).mono ?_); rintro e w3 ⟨rfl, rfl⟩)
        | (go_at_call 11; (with_reducible refine (RO.out).mono ?_); rintro e w1 ⟨rfl, hb1, hd1⟩)
        | (go_at_call 12; (with_reducible refine (prim_any _ _ _ hd1).mono ?_); rintro e wp ⟨⟨c, raw, c1, c8, hraw, rfl⟩, hgp, hdp⟩))
      have hB0 : Below w.heap.size w wp := gbelow hb1 hgp hb1.size (Nat.le_refl _)
      have hB := hB0.alloc (o := .cells #[.int .i64 (c : Int), .string raw] 24) hB0.size
      have hP := two_new wp (.int .i64 (c : Int)) (.string raw) 24
      have hPs : wp.heap.size < (wp.alloc (.cells #[.int .i64 (c : Int), .string raw] 24)).heap.size := by simp
      obtain ⟨W, hW⟩ : ∃ W, W = wp.alloc (.cells #[.int .i64 (c : Int), .string raw] 24) := ⟨_, rfl⟩
      rw [← hW] at hB hP hPs
      rw [← hW]
      obtain ⟨p, hp⟩ : ∃ p, p = wp.heap.size := ⟨_, rfl⟩
      rw [← hp] at hP hPs
      rw [← hp]
      clear hW hp hB0 hgp hdp hb1 hd1 LI RO
      have EN := fun (wx : World) (hx : Lay wx) => yprim_any (c : Int) raw wx (by unfold maxLen; omega) hx
      by_cases hs : raw.size = rawN c
      · have hpr : IsPrim c raw := ⟨c1, c8, hs⟩
        rw [hpr.primS, hpr.primE] at EN
        have hTz := hpr.txt_size
        obtain ⟨hz4, hz4', hz836, hcl⟩ := size_four c c1 c8
        have DE := fun (wx : World) (hx : Tab wx) (hy : Lay wx) => ydecp_any (txt c raw ++ after) wx (by rw [ByteArray.size_append, hTz]; unfold maxLen; omega) hx hy
        rw [decP_parts, hpr.add_dec after] at DE
        obtain ⟨q, hq⟩ : ∃ q, sizeN c = 4 * q := ⟨sizeN c / 4, by omega⟩
        obtain ⟨f1, f2, f3, f4⟩ := bin_back (txt c raw) q (by omega) (by rw [hTz, hq]) (by rw [txt_list]; exact hpr.allD)
        have BI := fun (wx : World) (hx : Tab wx) => ybinary_any (txt c raw) wx (by rw [hTz]; unfold maxLen; omega) hx.lt hx
        rw [f1] at BI
        have TX := fun (wx : World) => ytext_any (decFS (txt c raw).data.toList) wx (by rw [f2]; unfold maxLen; omega)
        rw [f3, f4] at TX
        have SZ := fun (wx : World) (hx : Lay wx) => ysizes_any (c : Int) wx hx
        rw [show sizeI (c : Int) = (sizeN c : Int) from rfl] at SZ
        obtain ⟨Bn, hBn⟩ : ∃ Bn, Bn = decFS (txt c raw).data.toList := ⟨_, rfl⟩
        rw [← hBn] at BI TX f2
        obtain ⟨T, hTe⟩ : ∃ T, T = txt c raw := ⟨_, rfl⟩
        rw [← hTe] at EN hTz DE BI TX
        obtain ⟨S, hS⟩ : ∃ S, S = sizeN c := ⟨_, rfl⟩
        rw [← hS] at hTz DE SZ hz836 hq
        have EN' := Lib.hid EN
        have DE' := Lib.hid DE
        have BI' := Lib.hid BI
        have TX' := Lib.hid TX
        have SZ' := Lib.hid SZ
        have hTz' : (T.size : Int) = (S : Int) := by omega
        have hBz : (Bn.size : Int) = (S : Int) / 4 * 3 := by omega
        have hS4 : (S : Int) % 4 = 0 := by omega
        have hcat : ¬ 9223372036854775807 < S + after.size := by omega
        have hcat2 : ¬ 9223372036854775807 < T.size + after.size := by omega
        clear EN DE BI TX SZ hpr hTe hS hz4 hcl hs f1 f3 f4 hBn f2 hq hz4'
        go_upto_region 8 with (first
          | (go_at_call 14; (with_reducible refine (EN'.out _ (HL.out.below hLT hB)).mono ?_); rintro e wn ⟨rfl, hb⟩; replace hP := two_keep hb hPs hP; replace hPs := Nat.lt_of_lt_of_le hPs hb.size; replace hB := hB.trans (hb.mono hB.size); clear hb)
          | (go_at_call 19; (with_reducible refine (DE'.out _ (HT.out.below hTT hB) (HL.out.below hLT hB)).mono ?_); rintro e wn ⟨rfl, hb⟩; replace hP := two_keep hb hPs hP; replace hPs := Nat.lt_of_lt_of_le hPs hb.size; replace hB := hB.trans (hb.mono hB.size); clear hb))
        have hQ := two_new wn (.int .i64 (c : Int)) (.string raw) 24
        have hQs : wn.heap.size < (wn.alloc (.cells #[.int .i64 (c : Int), .string raw] 24)).heap.size := by simp
        have hb2 := (Below.refl wn.heap.size wn).alloc (o := .cells #[.int .i64 (c : Int), .string raw] 24) (Nat.le_refl _)
        replace hP := two_keep hb2 hPs hP
        replace hPs := Nat.lt_trans hPs hQs
        replace hB := hB.trans (hb2.mono hB.size)
        clear hb2
        obtain ⟨W2, hW2⟩ : ∃ W, W = wn.alloc (.cells #[.int .i64 (c : Int), .string raw] 24) := ⟨_, rfl⟩
        rw [← hW2] at hB hP hPs hQ hQs
        rw [← hW2]
        obtain ⟨p2, hp2⟩ : ∃ p, p = wn.heap.size := ⟨_, rfl⟩
        rw [← hp2] at hQ hQs
        rw [← hp2]
        clear hW2 hp2
        go_wp2_with (first
          | (go_at_call 23; (with_reducible refine (BI'.out _ (HT.out.below hTT hB)).mono ?_); rintro e wn ⟨rfl, hb⟩; replace hP := two_keep hb hPs hP; replace hPs := Nat.lt_of_lt_of_le hPs hb.size; replace hQ := two_keep hb hQs hQ; replace hQs := Nat.lt_of_lt_of_le hQs hb.size; replace hB := hB.trans (hb.mono hB.size); clear hb)
          | (go_at_call 25; (with_reducible refine (TX'.out _ ).mono ?_); rintro e wn ⟨rfl, hb⟩; replace hP := two_keep hb hPs hP; replace hPs := Nat.lt_of_lt_of_le hPs hb.size; replace hQ := two_keep hb hQs hQ; replace hQs := Nat.lt_of_lt_of_le hQs hb.size; replace hB := hB.trans (hb.mono hB.size); clear hb)
          | (go_at_call 31; (with_reducible refine (SZ'.out _ (HL.out.below hLT hB)).mono ?_); rintro e wn ⟨rfl, hb⟩; replace hP := two_keep hb hPs hP; replace hPs := Nat.lt_of_lt_of_le hPs hb.size; replace hQ := two_keep hb hQs hQ; replace hQs := Nat.lt_of_lt_of_le hQs hb.size; replace hB := hB.trans (hb.mono hB.size); clear hb)
          | (go_at_call 10; (with_reducible refine (AW.out _ (HL.out.below hLT hB)).mono ?_); rintro e wn ⟨rfl, hb⟩; replace hB := hB.trans (hb.mono hB.size); clear hb))
        go_ret
        exact ⟨rfl, hB⟩
      · rw [(notPrim c1 c8 hs).1, (notPrim c1 c8 hs).2] at EN
        have EN' := Lib.hid EN
        clear hs EN
        go_wp2_with (first
          | (go_at_call 14; (with_reducible refine (EN'.out _ (HL.out.below hLT hB)).mono ?_); rintro e wn ⟨rfl, hb⟩; replace hP := two_keep hb hPs hP; replace hPs := Nat.lt_of_lt_of_le hPs hb.size; replace hB := hB.trans (hb.mono hB.size); clear hb)
          | (go_at_call 10; (with_reducible refine (AW.out _ (HL.out.below hLT hB)).mono ?_); rintro e wn ⟨rfl, hb⟩; replace hB := hB.trans (hb.mono hB.size); clear hb))
        go_ret
        exact ⟨rfl, hB⟩
    · have h100' : (100 : Int) < (after.size : Int) := by omega
      clear h500
      go_enter Tryd.func4, Tryd.ntmps4
      go_wp2_with (first
        | (go_at_call 9; (with_reducible refine (LI.out _).mono ?_); rintro e w3 ⟨rfl, rfl⟩)
        | (go_at_call 10; (with_reducible refine (AW.out _ (HL.out.below hLT hB)).mono ?_); rintro e wn ⟨rfl, hb⟩; replace hB := hB.trans (hb.mono hB.size); clear hb))
      go_ret
      exact ⟨rfl, hB⟩
  · rw [decide_eq_false h500] at LI
    clear h500
    go_enter Tryd.func4, Tryd.ntmps4
    go_wp2_with (first
      | (go_at_call 9; (with_reducible refine (LI.out _).mono ?_); rintro e w3 ⟨rfl, rfl⟩)
      | (go_at_call 10; (with_reducible refine (AW.out _ (HL.out.below hLT hB)).mono ?_); rintro e wn ⟨rfl, hb⟩; replace hB := hB.trans (hb.mono hB.size); clear hb))
    go_ret
    exact ⟨rfl, hB⟩

end Go.Proofs.YteammnfdhdhefaaDoor
