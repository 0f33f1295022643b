/- The walk of the statement StreamBack: whatever list of numbers comes in, the Go text returns true, provided that the three tables read as the program lays them. -/
import Derived.Test.YtdmgmfdmakheiaaDoorLonce
import Derived.Test.YtdmgmfdmakheiaaDoorApp
import Derived.Test.YtdmgmfdmakheiaaDoorSsame
namespace Go.Proofs.YtdmgmfdmakheiaaDoor
open Go.ChangeShapes Go.WideShapes Go.ChangeAt Go.RowKit
set_option linter.unusedVariables false
set_option linter.unusedSimpArgs false

theorem enc_empty {G : List Grp} (h : encGE G ≠ 0) : encGS G = ⟨#[]⟩ := by
  unfold encGE at h
  unfold encGS
  by_cases h1 : 1024 < cntG G
  · rw [if_pos h1]
  · rw [if_neg h1] at h ⊢
    by_cases h2 : allF G = false
    · rw [if_pos h2]
    · rw [if_neg h2] at h ⊢
      rw [if_pos h]
/-- A text of whole fours of digits goes into the binary form and back. -/
theorem bins_back (t : ByteArray) (q : Nat) (hq : q ≤ 20000) (hl : t.size = 4 * q) (ha : allD t.data.toList = true) :
    decFE t.data.toList = 0 ∧ (decFS t.data.toList).size = 3 * q ∧ encE (decFS t.data.toList).data.toList = 0 ∧ encS (decFS t.data.toList).data.toList = t := by
  have hl' : t.data.toList.length = 4 * q := by rw [len_is]; exact hl
  obtain ⟨e1, e2⟩ := dec_fours _ q hl' (by omega) ha
  have h3 := decL_length q _ hl'
  have e3 : (decFS t.data.toList).data.toList = decL t.data.toList := by rw [e2]; rfl
  obtain ⟨e4, e5⟩ := enc_threes (decL t.data.toList) q h3 (by omega)
  refine ⟨e1, by rw [e2, strL_size, h3], by rw [e3]; exact e4, ?_⟩
  rw [e3, e5, encL_decL q _ hl' ha, strL_list]
theorem grpsOf_add (A D : List Trip) : grpsOf (A ++ D) = grpsOf A ++ grpsOf D := by simp [grpsOf]
theorem GroupsAt.go {w w' : World} {v : Value} {G : List Grp} (h : GroupsAt w.heap.size w v G) (hb : Below w.heap.size w w') : GroupsAt w'.heap.size w' v G := h.same hb.block hb.size
theorem same_true (va vb : Value) (G : List Grp) (w : World) (hA : GroupsAt w.heap.size w va G) (hD : GroupsAt w.heap.size w vb G) : Calls Tryd.prog 22 #[va, vb] w fun e w' => e = .returned (.bool true) ∧ Below w.heap.size w w' := by
  have h := rsame_any va vb G G w hA hD
  rw [decide_eq_true rfl] at h
  exact h

set_option maxHeartbeats 3200000 in
set_option maxRecDepth 100000 in
theorem back4_walk (a : Option Addr) (len cap : Nat) (zs : List Int) (w : World) (hn : NumsB w.heap.size w a len cap zs) (hT : Tbs w) :
    Calls Tryd.prog 5 #[.slice a len cap] w fun e w' => e = .returned (.bool true) ∧ Below w.heap.size w w' := by
  have AW := Lib.hid (fun (wx : World) (hx : Tbs wx) => awake4_any wx hx)
  have LI := Lib.hid (fun wx : World => light_any a len cap wx)
  have RO := Lib.hid (roll_any a len cap zs w hn)
  have HT := Lib.hid hT
  clear hT hn
  have hB := Below.refl w.heap.size w
  by_cases h500 : (len : Int) ≤ 500
  · rw [decide_eq_true h500] at LI
    clear h500 hB
    go_enter Tryd.func5, Tryd.ntmps5
    go_upto_region 5 with (first
      | (go_at_call 8; (with_reducible refine (LI.out _).mono ?_); rintro e w3 ⟨rfl, rfl⟩)
      | (go_at_call 11; (with_reducible refine (RO.out).mono ?_); rintro e w1 ⟨rfl, hb1, hd1⟩)
      | (go_at_call 10; (with_reducible refine (groups_row _ _ _ hd2).mono ?_); rintro e w3 ⟨⟨ao2, cap2, A2, rfl, hr2, hl2, hc2⟩, hg3, hd3⟩)
      | (go_at_call 10; (with_reducible refine (groups_row _ _ _ hd1).mono ?_); rintro e w2 ⟨⟨ao1, cap1, A1, rfl, hr1, hl1, hc1⟩, hg2, hd2⟩))
    have hB : Below w.heap.size w w3 := gbelow hb1 (gtrans hg2 hg3) hb1.size (Nat.le_refl _)
    replace hr1 := hr1.kept hg3 (fun r e => by cases e; exact hd1.lt)
    clear hb1 hd1 hg2 hd2 hg3 hd3 LI RO
    have hs1 : (grpsOf A1).length = A1.length := by simp [grpsOf]
    have hs2 : (grpsOf A2).length = A2.length := by simp [grpsOf]
    have EN := Lib.hid (fun (v : Value) (G : List Grp) (wx : World) (h : GroupsAt wx.heap.size wx v G) (hl : G.length ≤ 1000000) (hc : cntG G ≤ 1000000) (hx : Tbs wx) => enc_any v G wx h hl hc hx)
    by_cases hE1 : encGE (grpsOf A1) = 0
    · obtain ⟨hc1', hok1, hS1⟩ := enc_ok hE1
      have EN1 := fun (v : Value) (wx : World) (h : GroupsAt wx.heap.size wx v (grpsOf A1)) (hx : Tbs wx) => EN.out v (grpsOf A1) wx h (by omega) (by omega) hx
      rw [hE1, hS1] at EN1
      by_cases hE2 : encGE (grpsOf A2) = 0
      · obtain ⟨hc2', hok2, hS2⟩ := enc_ok hE2
        have EN2 := fun (v : Value) (wx : World) (h : GroupsAt wx.heap.size wx v (grpsOf A2)) (hx : Tbs wx) => EN.out v (grpsOf A2) wx h (by omega) (by omega) hx
        rw [hE2, hS2] at EN2
        have hf1 := few_size (G := grpsOf A1) (by omega) hc1
        have hf2 := few_size (G := grpsOf A2) (by omega) hc2
        obtain ⟨d1, d2⟩ := dec_grps (G := grpsOf A1 ++ grpsOf A2) (by rw [cnt_append]; omega) (okG_append hok1 hok2)
        rw [grps_append, ← strL_join] at d1 d2
        obtain ⟨q, hq, hql, hqa⟩ := grps_fours (grpsOf A1) hok1
        obtain ⟨b1, b2, b3, b4⟩ := bins_back (strL (grpsL (grpsOf A1))) q (by omega) (by rw [strL_size]; exact hql) hqa
        obtain ⟨e1, e2⟩ := dec_grps hc1' hok1
        have BI0 := fun (v : Value) (wx : World) (h : GroupsAt wx.heap.size wx v (grpsOf A1)) (hx : Tbs wx) => binG_any v (grpsOf A1) wx h (by omega) (by omega) hx
        unfold binGS binGE at BI0
        rw [hE1, hS1, if_neg (by decide), if_neg (by decide), b1] at BI0
        obtain ⟨S1, hSe1⟩ : ∃ S, S = strL (grpsL (grpsOf A1)) := ⟨_, rfl⟩
        obtain ⟨S2, hSe2⟩ : ∃ S, S = strL (grpsL (grpsOf A2)) := ⟨_, rfl⟩
        have hz1 : S1.size ≤ 10044 := by rw [hSe1, strL_size]; exact hf1
        have hz2 : S2.size ≤ 10044 := by rw [hSe2, strL_size]; exact hf2
        rw [← hSe1] at EN1 d1 d2 b2 b3 b4 e1 e2 BI0
        rw [← hSe2] at EN2 d1 d2
        obtain ⟨Bn, hBn⟩ : ∃ v, v = decFS S1.data.toList := ⟨_, rfl⟩
        rw [← hBn] at BI0 b2 b3 b4
        have FB0 := fun (wx : World) (hx : Tbs wx) => fbG_any Bn wx (by rw [b2]; unfold maxLen; omega) hx
        unfold FbPost fbE fbL at FB0
        rw [b3, b4, if_neg (by decide), if_neg (by decide), e1, e2] at FB0
        have DE0 := fun (wx : World) (hx : Tbs wx) => decG_any (S1 ++ S2) wx (by rw [ByteArray.size_append]; omega) hx
        unfold DecPost at DE0
        rw [d1, d2] at DE0
        have EN1' := Lib.hid EN1
        have EN2' := Lib.hid EN2
        have BI := Lib.hid BI0
        have FB := Lib.hid FB0
        have DE := Lib.hid DE0
        have hcat : ¬ 9223372036854775807 < S1.size + S2.size := by omega
        obtain ⟨ip, hip, hi0, hi1, hi2⟩ := infog
        have hug := Tryd.underlying23
        clear hE1 hE2 hc1' hok1 hS1 hc2' hok2 hS2 hf1 hf2 d1 d2 hq hql hqa b1 b2 b3 b4 e1 e2 hSe1 hSe2 hBn BI0 FB0 DE0 EN1 EN2 hs1 hs2 EN
        go_upto_region 12 with (first
          | (go_at_call 12; (first | (with_reducible refine (EN1'.out _ _ hr1.groups (HT.out.at hB)).mono ?_) | (with_reducible refine (EN2'.out _ _ hr2.groups (HT.out.at hB)).mono ?_)); rintro e wn ⟨rfl, hb⟩; replace hr1 := hr1.below hb; replace hr2 := hr2.below hb; replace hB := hB.trans (hb.mono hB.size); clear hb)
          | (go_at_call 18; (with_reducible refine (DE.out _ (HT.out.at hB)).mono ?_); rintro e wn ⟨hb, v, rfl, hv⟩; replace hr1 := hr1.below hb; replace hr2 := hr2.below hb; replace hB := hB.trans (hb.mono hB.size); clear hb)
          | (go_at_call 14; (with_reducible refine (BI.out _ _ hr1.groups (HT.out.at hB)).mono ?_); rintro e wn ⟨rfl, hb⟩; replace hr1 := hr1.below hb; replace hr2 := hr2.below hb; replace hv := hv.go hb; replace hB := hB.trans (hb.mono hB.size); clear hb)
          | (go_at_call 20; (with_reducible refine (FB.out _ (HT.out.at hB)).mono ?_); rintro e wf ⟨hb, v2, rfl, hv2⟩; replace hr1 := hr1.below hb; replace hr2 := hr2.below hb; replace hv := hv.go hb; replace hB := hB.trans (hb.mono hB.size); clear hb))
        have hl6 : A1.length + A2.length ≤ 6 := by omega
        have ho1 := grow_one hr1
        have ho2 := grow_one hr2
        go_wp2_with (first
          | (at_builtin; refine wpList_append_rows _ (by rfl) (.const (.slice none 0 0)) (.tmp 88) 23 rfl wf.heap.size 28 ip _ 2 32 hug hip hi0 hi1 hi2 rfl (by decide) (.slice none 0 0) 0 [] rfl (World.ownsRow_nil wf _ _ _) _ _ A1.length (gCells A1) rfl hr1.1 ho1 (by unfold maxLen; omega) (by omega) (Nat.le_refl _) ?_; intro v5 w5 hown5 hgr5; have hb5 : Below wf.heap.size wf w5 := (Below.refl wf.heap.size wf).grown hgr5 (Nat.le_refl _) (fun b e => by cases e); have hr25 := hr2.below hb5)
          | (at_builtin; refine wpList_append_rows _ (by rfl) (.tmp 89) (.tmp 90) 23 rfl wf.heap.size 28 ip _ 2 32 hug hip hi0 hi1 hi2 rfl (by decide) v5 (0 + A1.length) ([] ++ gCells A1) rfl hown5 _ _ A2.length (gCells A2) rfl hr25.1 ho2 (by unfold maxLen; omega) (by omega) hb5.size ?_; intro v6 w6 hown6 hgr6; have hb6 : Below wf.heap.size wf w6 := hb5.grown hgr6 hb5.size (fun b e => (hown5.lt b e).1); have hitems : ∀ x, x ∈ A1 ++ A2 → PrimsAt w6.heap.size w6 x.2.1 x.2.2 := (fun x hx => by (rcases List.mem_append.1 hx with hx | hx); exact (hr1.2 x hx).1.same hb6.block hb6.size; exact (hr2.2 x hx).1.same hb6.block hb6.size); have hG6 : GroupsAt w6.heap.size w6 v6 (grpsOf A1 ++ grpsOf A2) := (by rw [← grpsOf_add]; refine groups_of_owns (TG := 28) (base := wf.heap.size) ?_ hitems; rw [List.length_append, gCells_append]; simpa using hown6); replace hr1 := hr1.below hb6; replace hv := hv.go hb6; replace hv2 := hv2.go hb6; replace hB := hB.trans (hb6.mono hB.size); clear hitems hown5 hown6 hr2 hr25 hb5 hb6 hgr5 hgr6)
          | (go_at_call 22; (first | (with_reducible refine (same_true _ _ _ _ hv hG6).mono ?_) | (with_reducible refine (same_true _ _ _ _ hv2 hr1.groups).mono ?_)); rintro e wn ⟨rfl, hb⟩; replace hr1 := hr1.below hb; replace hv2 := hv2.go hb; replace hB := hB.trans (hb.mono hB.size); clear hb)
          | (go_at_call 9; (with_reducible refine (AW.out _ (HT.out.at hB)).mono ?_); rintro e wn ⟨rfl, hb⟩; replace hB := hB.trans (hb.mono hB.size); clear hb))
        go_ret
        exact ⟨rfl, hB⟩
      · have EN2 := fun (v : Value) (wx : World) (h : GroupsAt wx.heap.size wx v (grpsOf A2)) (hx : Tbs wx) => EN.out v (grpsOf A2) wx h (by omega) (by omega) hx
        rw [enc_empty hE2] at EN2
        have hn2 : (encGE (grpsOf A2) != 0) = true := by simpa using hE2
        have hn3 : (encGE (grpsOf A2) == 0) = false := by simpa using hE2
        obtain ⟨E2, hEe2⟩ : ∃ v, v = encGE (grpsOf A2) := ⟨_, rfl⟩
        rw [← hEe2] at EN2 hn2 hn3
        have EN1' := Lib.hid EN1
        have EN2' := Lib.hid EN2
        have hq1 := empty_str (a := ⟨#[]⟩) rfl
        have hq2 := same_str (a := ⟨#[]⟩) (b := ⟨#[]⟩) rfl
        clear EN1 EN2 hE1 hE2 hEe2 hc1' hok1 hS1 EN hs1 hs2
        go_wp2_with (first
          | (go_at_call 12; (first | (with_reducible refine (EN1'.out _ _ hr1.groups (HT.out.at hB)).mono ?_) | (with_reducible refine (EN2'.out _ _ hr2.groups (HT.out.at hB)).mono ?_)); rintro e wn ⟨rfl, hb⟩; replace hr1 := hr1.below hb; replace hr2 := hr2.below hb; replace hB := hB.trans (hb.mono hB.size); clear hb)
          | (go_at_call 9; (with_reducible refine (AW.out _ (HT.out.at hB)).mono ?_); rintro e wn ⟨rfl, hb⟩; replace hB := hB.trans (hb.mono hB.size); clear hb))
        go_ret
        exact ⟨rfl, hB⟩
    · have EN1 := fun (v : Value) (wx : World) (h : GroupsAt wx.heap.size wx v (grpsOf A1)) (hx : Tbs wx) => EN.out v (grpsOf A1) wx h (by omega) (by omega) hx
      rw [enc_empty hE1] at EN1
      have hn2 : (encGE (grpsOf A1) != 0) = true := by simpa using hE1
      have hn3 : (encGE (grpsOf A1) == 0) = false := by simpa using hE1
      obtain ⟨E1, hEe1⟩ : ∃ v, v = encGE (grpsOf A1) := ⟨_, rfl⟩
      rw [← hEe1] at EN1 hn2 hn3
      have EN1' := Lib.hid EN1
      have hq1 := empty_str (a := ⟨#[]⟩) rfl
      have hq2 := same_str (a := ⟨#[]⟩) (b := ⟨#[]⟩) rfl
      clear EN1 hE1 hEe1
      have EN2 := fun (v : Value) (wx : World) (h : GroupsAt wx.heap.size wx v (grpsOf A2)) (hx : Tbs wx) => EN.out v (grpsOf A2) wx h (by omega) (by omega) hx
      by_cases hE2 : encGE (grpsOf A2) = 0
      · rw [hE2] at EN2
        obtain ⟨S2, hS2⟩ : ∃ v, v = encGS (grpsOf A2) := ⟨_, rfl⟩
        rw [← hS2] at EN2
        have EN2' := Lib.hid EN2
        clear EN2 hE2 hS2 EN hs1 hs2
        go_wp2_with (first
          | (go_at_call 12; (first | (with_reducible refine (EN1'.out _ _ hr1.groups (HT.out.at hB)).mono ?_) | (with_reducible refine (EN2'.out _ _ hr2.groups (HT.out.at hB)).mono ?_)); rintro e wn ⟨rfl, hb⟩; replace hr1 := hr1.below hb; replace hr2 := hr2.below hb; replace hB := hB.trans (hb.mono hB.size); clear hb)
          | (go_at_call 9; (with_reducible refine (AW.out _ (HT.out.at hB)).mono ?_); rintro e wn ⟨rfl, hb⟩; replace hB := hB.trans (hb.mono hB.size); clear hb))
        go_ret
        exact ⟨rfl, hB⟩
      · rw [enc_empty hE2] at EN2
        have hn4 : (encGE (grpsOf A2) != 0) = true := by simpa using hE2
        have hn5 : (encGE (grpsOf A2) == 0) = false := by simpa using hE2
        obtain ⟨E2, hEe2⟩ : ∃ v, v = encGE (grpsOf A2) := ⟨_, rfl⟩
        rw [← hEe2] at EN2 hn4 hn5
        have EN2' := Lib.hid EN2
        clear EN2 hE2 hEe2 EN hs1 hs2
        go_wp2_with (first
          | (go_at_call 12; (first | (with_reducible refine (EN1'.out _ _ hr1.groups (HT.out.at hB)).mono ?_) | (with_reducible refine (EN2'.out _ _ hr2.groups (HT.out.at hB)).mono ?_)); rintro e wn ⟨rfl, hb⟩; replace hr1 := hr1.below hb; replace hr2 := hr2.below hb; replace hB := hB.trans (hb.mono hB.size); clear hb)
          | (go_at_call 9; (with_reducible refine (AW.out _ (HT.out.at hB)).mono ?_); rintro e wn ⟨rfl, hb⟩; replace hB := hB.trans (hb.mono hB.size); clear hb))
        go_ret
        exact ⟨rfl, hB⟩
  · rw [decide_eq_false h500] at LI
    go_enter Tryd.func5, Tryd.ntmps5
    go_wp2_with (first
      | (go_at_call 8; (with_reducible refine (LI.out _).mono ?_); rintro e w3 ⟨rfl, rfl⟩)
      | (go_at_call 9; (with_reducible refine (AW.out _ (HT.out.at hB)).mono ?_); rintro e wn ⟨rfl, hb⟩; replace hB := hB.trans (hb.mono hB.size); clear hb))
    go_ret
    exact ⟨rfl, hB⟩

end Go.Proofs.YtdmgmfdmakheiaaDoor
