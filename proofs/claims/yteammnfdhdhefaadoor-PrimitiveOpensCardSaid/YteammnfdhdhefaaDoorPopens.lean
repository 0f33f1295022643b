/- The walk of the statement PrimitiveOpens: whatever list of numbers and whatever number comes in, the Go text returns true, provided that both tables read as the program lays them. -/
import Derived.Test.YteammnfdhdhefaaDoorPawk
import Derived.Test.YteammnfdhdhefaaDoorPmath
import Derived.Test.YteammnfdhdhefaaDoorPkit
namespace Go.Proofs.YteammnfdhdhefaaDoor
open Go.ChangeShapes Go.WideShapes Go.ChangeAt Go.RowKit
set_option linter.unusedVariables false
set_option linter.unusedSimpArgs false

set_option maxHeartbeats 1600000 in
set_option maxRecDepth 100000 in
theorem opens_walk (a : Option Addr) (len cap : Nat) (zs : List Int) (code : Int) (w : World) (hn : NumsB w.heap.size w a len cap zs) (k1 : -9223372036854775808 ≤ code) (k2 : code ≤ 9223372036854775807) (hT : Tab w) (hL : Lay w) :
    Calls Tryd.prog 7 #[.slice a len cap, .int .i64 code] w fun e w' => e = .returned (.bool true) ∧ Below w.heap.size w w' := by
  obtain ⟨ka, hka⟩ : ∃ k : Nat, code % 8 = (k : Int) := ⟨(code % 8).toNat, by omega⟩
  have MA := fun wx : World => mod_any code 8 wx (by decide) (by decide) k1 k2
  rw [show ((8 : Nat) : Int) = 8 from rfl, hka] at MA
  obtain ⟨q, hq⟩ : ∃ q, q = ka + 1 := ⟨_, rfl⟩
  have hqa : 1 + (ka : Int) = (q : Int) := by omega
  have hq8 : q ≤ 8 := by omega
  have hq1 : 1 ≤ q := by omega
  have MA' := Lib.hid MA
  have AW := Lib.hid (fun (wx : World) (hx : Lay wx) => awake3_any wx hx)
  have LI := Lib.hid (fun wx : World => light_any a len cap wx)
  have RO := Lib.hid (roll_any a len cap zs w hn)
  have hLT := hL.lt
  have hTT := hT.lt
  have HL := Lib.hid hL
  have HT := Lib.hid hT
  clear hL hT hn k1 k2 hka hq MA
  by_cases h500 : (len : Int) ≤ 500
  · rw [decide_eq_true h500] at LI
    clear h500
    go_enter Tryd.func7, Tryd.ntmps7
    go_upto_region 4 with (first
      | (go_at_call 9; (with_reducible refine (LI.out _).mono ?_); rintro e w3 ⟨rfl, rfl⟩)
      | (go_at_call 11; (with_reducible refine (RO.out).mono ?_); rintro e w1 ⟨rfl, hb1, hd1⟩)
      | (go_at_call 12; (with_reducible refine (prim_any _ _ _ hd1).mono ?_); rintro e wp ⟨⟨c, raw, c1, c8, hraw, rfl⟩, hgp, hdp⟩))
    have hB0 : Below w.heap.size w wp := gbelow hb1 hgp hb1.size (Nat.le_refl _)
    have hB := hB0.alloc (o := .cells #[.int .i64 (c : Int), .string raw] 24) hB0.size
    have hP := two_new wp (.int .i64 (c : Int)) (.string raw) 24
    have hPs : wp.heap.size < (wp.alloc (.cells #[.int .i64 (c : Int), .string raw] 24)).heap.size := by simp
    obtain ⟨W, hW⟩ : ∃ W, W = wp.alloc (.cells #[.int .i64 (c : Int), .string raw] 24) := ⟨_, rfl⟩
    rw [← hW] at hB hP hPs
    rw [← hW]
    obtain ⟨p, hp⟩ : ∃ p, p = wp.heap.size := ⟨_, rfl⟩
    rw [← hp] at hP hPs
    rw [← hp]
    clear hW hp hB0 hgp hdp hb1 hd1 LI RO
    have MK := fun (wx : World) (hx : Lay wx) => ymake_any (c : Int) raw wx (by unfold maxLen; omega) hx
    by_cases hs : raw.size = rawN c
    · have hpr : IsPrim c raw := ⟨c1, c8, hs⟩
      rw [hpr.primS] at MK
      have hTz := hpr.txt_size
      obtain ⟨hz4, hz4', hz836, hcl⟩ := size_four c c1 c8
      have O1 := fun (wx : World) (hx : Tab wx) (hy : Lay wx) => yopen_any (q : Int) (txt c raw) wx (by rw [hTz]; unfold maxLen; omega) hx hy
      have O2 := fun (wx : World) (hx : Tab wx) (hy : Lay wx) => yopen_any (c : Int) (txt c raw ++ { data := #[65] }) wx (by rw [ByteArray.size_append, hTz]; show sizeN c + 1 ≤ _; unfold maxLen; omega) hx hy
      have O3 := fun (wx : World) (hx : Tab wx) (hy : Lay wx) => yopen_any (c : Int) ((txt c raw).extract 0 (sizeN c - 1)) wx (by rw [ext_size _ _ _ (by omega) (by omega)]; unfold maxLen; omega) hx hy
      rw [(hpr.open_longer { data := #[65] } (by decide)).1, (hpr.open_longer { data := #[65] } (by decide)).2] at O2
      rw [(hpr.open_shorter (sizeN c - 1) (by omega) (by omega) _).1, (hpr.open_shorter (sizeN c - 1) (by omega) (by omega) _).2] at O3
      have hoq : ((c : Int) = (q : Int) → opnE (q : Int) (txt c raw) = 0 ∧ opnS (q : Int) (txt c raw) = raw) ∧ ((c : Int) ≠ (q : Int) → opnE (q : Int) (txt c raw) = 7 ∧ opnS (q : Int) (txt c raw) = ⟨#[]⟩) :=
        ⟨fun e => by rw [← e]; exact hpr.open_own, hpr.open_other _⟩
      obtain ⟨T, hTe⟩ : ∃ T, T = txt c raw := ⟨_, rfl⟩
      obtain ⟨S, hS⟩ : ∃ S, S = sizeN c := ⟨_, rfl⟩
      rw [← hTe] at MK hTz O1 O2 O3 hoq
      rw [← hS] at hTz hz4' hz836 O3
      obtain ⟨S1, hS1⟩ : ∃ k, k = S - 1 := ⟨_, rfl⟩
      have hne : T.toList.isEmpty = false := by
        rw [ByteArray.toList_eq]
        have : T.data.toList.length ≠ 0 := by rw [len_is]; omega
        cases h : T.data.toList with
        | nil => rw [h] at this; exact absurd rfl this
        | cons x l => rfl
      have MK' := Lib.hid MK
      have O1' := Lib.hid O1
      have O2' := Lib.hid O2
      have O3' := Lib.hid O3
      have HQ := Lib.hid hoq
      have hTz' : (T.size : Int) = (S : Int) := by omega
      have hcat : ¬ 9223372036854775807 < S + 1 := by omega
      clear MK O1 O2 O3 hoq hpr hTe hS hz4 hcl hs
      have hs0 : (0 : Int) ≤ (S1 : Int) := by omega
      have hs2 : (S1 : Int) ≤ (S : Int) := by omega
      have hw1 : IntKind.i64.wrap ((S : Int) - 1) = (S1 : Int) := by rw [w64 _ (by omega)]; omega
      by_cases hcq : (c : Int) = (q : Int)
      · have O := O1'.out
        rw [(HQ.out.1 hcq).1, (HQ.out.1 hcq).2] at O
        have OQ := Lib.hid O
        have hqc : ((q : Int) == (c : Int)) = true := by simp [hcq]
        clear O O1' HQ hcq
        go_upto_region 10 with (first
          | (go_at_call 15; (with_reducible refine (MK'.out _ (HL.out.below hLT hB)).mono ?_); rintro e wn ⟨rfl, hb⟩; replace hP := two_keep hb hPs hP; replace hPs := Nat.lt_of_lt_of_le hPs hb.size; replace hB := hB.trans (hb.mono hB.size); clear hb)
          | (go_at_call 18; (with_reducible refine (MA'.out _).mono ?_); rintro e w3 ⟨rfl, rfl⟩)
          | (go_at_call 21; first | ((with_reducible refine (OQ.out _ (HT.out.below hTT hB) (HL.out.below hLT hB)).mono ?_); rintro e wn ⟨rfl, hb⟩; replace hP := two_keep hb hPs hP; replace hPs := Nat.lt_of_lt_of_le hPs hb.size; replace hB := hB.trans (hb.mono hB.size); clear hb) | ((with_reducible refine (O2'.out _ (HT.out.below hTT hB) (HL.out.below hLT hB)).mono ?_); rintro e wn ⟨rfl, hb⟩; replace hP := two_keep hb hPs hP; replace hPs := Nat.lt_of_lt_of_le hPs hb.size; replace hB := hB.trans (hb.mono hB.size); clear hb)))
        have hBd := hB.drew
        have HTd := Lib.hid (HT.out.below hTT hBd)
        have HLd := Lib.hid (HL.out.below hLT hBd)
        go_region_held3 (fun w' => w'.cell? ⟨p, 0, none⟩ = some (.int .i64 (c : Int)) ∧ w'.cell? ⟨p, 1, none⟩ = some (.string raw)) (first | exact hP | exact hP3)
          (first | (go_at_call 21; (with_reducible refine (O3'.out _ HTd.out HLd.out).mono ?_); rintro e wo ⟨rfl, hb⟩; have hP3 := two_keep hb hPs hP))
        replace hB := hBd.trans (hb.mono hB.size)
        clear hP hPs hBd HTd HLd hb
        go_wp2_with (go_at_call 10; (with_reducible refine (AW.out _ (HL.out.below hLT hB)).mono ?_); rintro e wn ⟨rfl, hb⟩; replace hB := hB.trans (hb.mono hB.size); clear hb)
        go_ret
        exact ⟨rfl, hB⟩
      · have O := O1'.out
        rw [(HQ.out.2 hcq).1, (HQ.out.2 hcq).2] at O
        have OQ := Lib.hid O
        have hqc : ((q : Int) == (c : Int)) = false := by simp only [beq_eq_false_iff_ne, ne_eq]; omega
        clear O O1' HQ hcq
        go_upto_region 10 with (first
          | (go_at_call 15; (with_reducible refine (MK'.out _ (HL.out.below hLT hB)).mono ?_); rintro e wn ⟨rfl, hb⟩; replace hP := two_keep hb hPs hP; replace hPs := Nat.lt_of_lt_of_le hPs hb.size; replace hB := hB.trans (hb.mono hB.size); clear hb)
          | (go_at_call 18; (with_reducible refine (MA'.out _).mono ?_); rintro e w3 ⟨rfl, rfl⟩)
          | (go_at_call 21; first | ((with_reducible refine (OQ.out _ (HT.out.below hTT hB) (HL.out.below hLT hB)).mono ?_); rintro e wn ⟨rfl, hb⟩; replace hP := two_keep hb hPs hP; replace hPs := Nat.lt_of_lt_of_le hPs hb.size; replace hB := hB.trans (hb.mono hB.size); clear hb) | ((with_reducible refine (O2'.out _ (HT.out.below hTT hB) (HL.out.below hLT hB)).mono ?_); rintro e wn ⟨rfl, hb⟩; replace hP := two_keep hb hPs hP; replace hPs := Nat.lt_of_lt_of_le hPs hb.size; replace hB := hB.trans (hb.mono hB.size); clear hb)))
        have hBd := hB.drew
        have HTd := Lib.hid (HT.out.below hTT hBd)
        have HLd := Lib.hid (HL.out.below hLT hBd)
        go_region_held3 (fun w' => w'.cell? ⟨p, 0, none⟩ = some (.int .i64 (c : Int)) ∧ w'.cell? ⟨p, 1, none⟩ = some (.string raw)) (first | exact hP | exact hP3)
          (first | (go_at_call 21; (with_reducible refine (O3'.out _ HTd.out HLd.out).mono ?_); rintro e wo ⟨rfl, hb⟩; have hP3 := two_keep hb hPs hP))
        replace hB := hBd.trans (hb.mono hB.size)
        clear hP hPs hBd HTd HLd hb
        go_wp2_with (go_at_call 10; (with_reducible refine (AW.out _ (HL.out.below hLT hB)).mono ?_); rintro e wn ⟨rfl, hb⟩; replace hB := hB.trans (hb.mono hB.size); clear hb)
        go_ret
        exact ⟨rfl, hB⟩
    · rw [(notPrim c1 c8 hs).1] at MK
      have MK' := Lib.hid MK
      clear hs MK
      go_wp2_with (first
        | (go_at_call 15; (with_reducible refine (MK'.out _ (HL.out.below hLT hB)).mono ?_); rintro e wn ⟨rfl, hb⟩; replace hP := two_keep hb hPs hP; replace hPs := Nat.lt_of_lt_of_le hPs hb.size; replace hB := hB.trans (hb.mono hB.size); clear hb)
        | (go_at_call 10; (with_reducible refine (AW.out _ (HL.out.below hLT hB)).mono ?_); rintro e wn ⟨rfl, hb⟩; replace hB := hB.trans (hb.mono hB.size); clear hb))
      go_ret
      exact ⟨rfl, hB⟩
  · rw [decide_eq_false h500] at LI
    clear h500
    have hB := Below.refl w.heap.size w
    go_enter Tryd.func7, Tryd.ntmps7
    go_wp2_with (first
      | (go_at_call 9; (with_reducible refine (LI.out _).mono ?_); rintro e w3 ⟨rfl, rfl⟩)
      | (go_at_call 10; (with_reducible refine (AW.out _ (HL.out.below hLT hB)).mono ?_); rintro e wn ⟨rfl, hb⟩; replace hB := hB.trans (hb.mono hB.size); clear hb))
    go_ret
    exact ⟨rfl, hB⟩

end Go.Proofs.YteammnfdhdhefaaDoor
