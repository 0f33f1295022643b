/- The walk of the statement StreamOnce: whatever list of numbers and whatever two numbers come in, the Go text returns true, provided that the three tables read as the program lays them. -/
import Derived.Test.YtdmgmfdmakheiaaDoorKgrps
import Derived.Test.YtdmgmfdmakheiaaDoorSpoil
namespace Go.Proofs.YtdmgmfdmakheiaaDoor
open Go.ChangeShapes Go.WideShapes Go.ChangeAt Go.RowKit
set_option linter.unusedVariables false
set_option linter.unusedSimpArgs false

theorem Tbs.at {w w' : World} (h : Tbs w) (hb : Below w.heap.size w w') : Tbs w' := h.below hb (Nat.le_refl _)
/-- How long the text of a few groups is. -/
theorem few_size {G : List Grp} (hl : G.length ≤ 3) (hc : cntG G ≤ 12) : (grpsL G).length ≤ 10044 := by
  have := grps_le G
  omega
theorem groups_form {B : Nat} {w : World} {v : Value} {G : List Grp} (h : GroupsAt B w v G) : ∃ ao cap, v = .slice ao G.length cap := by
  obtain ⟨ao, cap, h, _⟩ := h
  exact ⟨ao, cap, h⟩

set_option maxHeartbeats 1600000 in
set_option maxRecDepth 100000 in
theorem once4_walk (a : Option Addr) (len cap : Nat) (zs : List Int) (at_ by_ : Int) (w : World) (hn : NumsB w.heap.size w a len cap zs) (k1 : -9223372036854775808 ≤ at_) (k2 : at_ ≤ 9223372036854775807) (hT : Tbs w) :
    Calls Tryd.prog 7 #[.slice a len cap, .int .i64 at_, .int .i64 by_] w fun e w' => e = .returned (.bool true) ∧ Below w.heap.size w w' := by
  have AW := Lib.hid (fun (wx : World) (hx : Tbs wx) => awake4_any wx hx)
  have LI := Lib.hid (fun wx : World => light_any a len cap wx)
  have RO := Lib.hid (roll_any a len cap zs w hn)
  have HT := Lib.hid hT
  clear hT hn
  have hB := Below.refl w.heap.size w
  by_cases h500 : (len : Int) ≤ 500
  · rw [decide_eq_true h500] at LI
    clear h500 hB
    go_enter Tryd.func7, Tryd.ntmps7
    go_upto_region 4 with (first
      | (go_at_call 8; (with_reducible refine (LI.out _).mono ?_); rintro e w3 ⟨rfl, rfl⟩)
      | (go_at_call 11; (with_reducible refine (RO.out).mono ?_); rintro e w1 ⟨rfl, hb1, hd1⟩)
      | (go_at_call 10; (with_reducible refine (groups_any _ _ _ hd1).mono ?_); rintro e w2 ⟨⟨ai, li, ci, G, rfl, hG, hG3, hG12⟩, hg2, hd2⟩; have hB : Below w.heap.size w w2 := gbelow hb1 hg2 hb1.size (Nat.le_refl _))
      | (go_at_call 12; (with_reducible refine (enc_any _ G _ hG (by omega) (by omega) (HT.out.at hB)).mono ?_); rintro e wn ⟨rfl, hb⟩; replace hB := hB.trans (hb.mono hB.size); clear hb))
    clear hb1 hd1 hg2 hd2 LI RO
    by_cases hE : encGE G = 0
    · rw [hE]
      obtain ⟨hc, hok, hS⟩ := enc_ok hE
      rw [hS]
      have hsz := few_size hG3 hG12
      obtain ⟨hd, -⟩ := dec_grps hc hok
      obtain ⟨S, hSe⟩ : ∃ S, S = strL (grpsL G) := ⟨_, rfl⟩
      have hSz : S.size ≤ 10044 := by rw [hSe, strL_size]; exact hsz
      rw [← hSe] at hd
      rw [← hSe]
      have HD := Lib.hid hd
      have SP := Lib.hid (fun wx : World => spoil_any S at_ by_ wx (by omega) k1 k2)
      clear hE hc hok hS hsz hd hSe hG k1 k2
      go_upto_region 7 with (go_at_call 16; (with_reducible refine (SP.out _).mono ?_); rintro e wn ⟨x, rfl, hxs, hb⟩; replace hB := hB.trans (hb.mono hB.size); clear hb)
      have DE0 := fun (wx : World) (hx : Tbs wx) => decG_any x wx (by omega) hx
      unfold DecPost at DE0
      have henc := fun h => enc_dec (t := x) h
      have hlen := decGL_length x
      have hcnt := decGL_cnt x
      have hemp : decGE x ≠ 0 → decGL x = [] := fun h => by unfold decGL; rw [if_pos h]
      have hne : decGE x ≠ 0 → (x.toList == S.toList) = false := fun h => other_str (fun e => h (by rw [e]; exact HD.out))
      obtain ⟨E, hE⟩ : ∃ v, v = decGE x := ⟨_, rfl⟩
      obtain ⟨L, hL⟩ : ∃ v, v = decGL x := ⟨_, rfl⟩
      rw [← hE, ← hL] at DE0
      rw [← hE, ← hL] at henc hemp
      rw [← hL] at hlen hcnt
      rw [← hE] at hne
      have DE := Lib.hid DE0
      clear DE0 hE hL SP HD
      by_cases hE0 : E = 0
      · obtain ⟨q1, q2⟩ := henc hE0
        subst hE0
        have hsame := same_str (a := x) (b := x) rfl
        have EN := fun (v : Value) (wx : World) (h : GroupsAt wx.heap.size wx v L) (hx : Tbs wx) => enc_any v L wx h (by omega) (by omega) hx
        rw [q1, q2] at EN
        have EN' := Lib.hid EN
        clear henc hemp hne q1 q2 EN
        go_wp2_with (first
          | (go_at_call 18; (with_reducible refine (DE.out _ (HT.out.at hB)).mono ?_); rintro e wn ⟨hb, v, rfl, hv⟩; replace hB := hB.trans (hb.mono hB.size); clear hb)
          | (go_at_call 12; (with_reducible refine (EN'.out _ _ hv (HT.out.at hB)).mono ?_); rintro e wn ⟨rfl, hb⟩; replace hB := hB.trans (hb.mono hB.size); clear hb)
          | (go_at_call 9; (with_reducible refine (AW.out _ (HT.out.at hB)).mono ?_); rintro e wn ⟨rfl, hb⟩; replace hB := hB.trans (hb.mono hB.size); clear hb))
        go_ret
        exact ⟨rfl, hB⟩
      · have hEn : (E != 0) = true := by simpa using hE0
        have hx := hne hE0
        have hl0 := hemp hE0
        subst hl0
        clear henc hemp hne hE0
        go_wp2_with (first
          | (go_at_call 18; (with_reducible refine (DE.out _ (HT.out.at hB)).mono ?_); rintro e wn ⟨hb, v, rfl, hv⟩; replace hB := hB.trans (hb.mono hB.size); clear hb; obtain ⟨a2, c2, rfl⟩ := groups_form hv)
          | (go_at_call 9; (with_reducible refine (AW.out _ (HT.out.at hB)).mono ?_); rintro e wn ⟨rfl, hb⟩; replace hB := hB.trans (hb.mono hB.size); clear hb))
        go_ret
        exact ⟨rfl, hB⟩
    · have hEn : (encGE G != 0) = true := by simpa using hE
      obtain ⟨E, hEe⟩ : ∃ v, v = encGE G := ⟨_, rfl⟩
      rw [← hEe] at hEn
      rw [← hEe]
      clear hE hEe
      go_wp2_with (go_at_call 9; (with_reducible refine (AW.out _ (HT.out.at hB)).mono ?_); rintro e wn ⟨rfl, hb⟩; replace hB := hB.trans (hb.mono hB.size); clear hb)
      go_ret
      exact ⟨rfl, hB⟩
  · rw [decide_eq_false h500] at LI
    go_enter Tryd.func7, Tryd.ntmps7
    go_wp2_with (first
      | (go_at_call 8; (with_reducible refine (LI.out _).mono ?_); rintro e w3 ⟨rfl, rfl⟩)
      | (go_at_call 9; (with_reducible refine (AW.out _ (HT.out.at hB)).mono ?_); rintro e wn ⟨rfl, hb⟩; replace hB := hB.trans (hb.mono hB.size); clear hb))
    go_ret
    exact ⟨rfl, hB⟩

end Go.Proofs.YtdmgmfdmakheiaaDoor
