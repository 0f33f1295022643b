/- The statements' own groups (some list of groups) and awake (the chapter's example) of layer 4. -/
import Derived.Test.YtdmgmfdmakheiaaDoorKgrp
import Derived.Test.YtdmgmfdmakheiaaDoorTdec
namespace Go.Proofs.YtdmgmfdmakheiaaDoor
open Go.ChangeShapes Go.WideShapes Go.ChangeAt Go.RowKit
set_option linter.unusedVariables false
set_option linter.unusedSimpArgs false

/-- Some list of groups. -/
def SomeGroups (e : Ending) (w' : World) : Prop :=
  ∃ ai li ci G, e = .returned (.slice ai li ci) ∧ GroupsAt w'.heap.size w' (.slice ai li ci) G ∧ G.length ≤ 3 ∧ cntG G ≤ 12
/-- Some list of groups, as a row that the call has made. -/
def SomeRow (TG : TypeId) (w : World) (e : Ending) (w' : World) : Prop :=
  ∃ ao cap A, e = .returned (.slice ao (List.length A) cap) ∧ GRow TG w.heap.size w' (.slice ao A.length cap) A ∧ A.length ≤ 3 ∧ cntG (grpsOf A) ≤ 12
theorem someGroups_of {TG : TypeId} {w w' : World} {e : Ending} (h : SomeRow TG w e w') : SomeGroups e w' := by
  obtain ⟨ao, cap, A, h1, h2, h3, h4⟩ := h
  have hl : (grpsOf A).length = A.length := by simp [grpsOf]
  exact ⟨ao, A.length, cap, grpsOf A, h1, h2.groups, by omega, h4⟩
set_option maxHeartbeats 1600000 in
set_option maxRecDepth 100000 in
theorem groups_row (B dg : Nat) (w : World) (hd : DiceAt B w dg) : Calls Tryd.prog 10 #[.pointer (some ⟨dg, 0, none⟩)] w fun e w' => SomeRow 28 w e w' ∧ w.grownBy w' (some dg) ∧ DiceAt B w' dg := by
  have N4 := Lib.hid (fun (wx : World) (hx : DiceAt B wx dg) => next_lit B dg 4 4 rfl wx (by decide) (by decide) hx)
  have KG := Lib.hid (fun (wx : World) (hx : DiceAt B wx dg) => kgroup_any B dg wx hx)
  have hgw := hd.lt
  have HD := Lib.hid hd
  obtain ⟨ip, hip, hz0, hz1, hz2⟩ := infog
  have hug := Tryd.underlying23
  clear hd
  go_enter Tryd.func10, Tryd.ntmps10
  go_wp2_with (go_at_call 28; (with_reducible refine (N4.out _ HD.out).mono ?_); rintro e w1 ⟨⟨n, hn, rfl⟩, hg1, hd1⟩)
  have HG1 := Lib.hid hg1
  have HD1 := Lib.hid hd1
  clear hg1 hd1
  go_loopw [3, 6] (fun v i wr => ∃ (j : Nat) (A : List Trip) (ao : Option Addr) (cap : Nat), i = .int .i64 j ∧ v = .slice ao A.length cap ∧ j ≤ n ∧ A.length ≤ j ∧ cntG (grpsOf A) ≤ 4 * j ∧ GRow 28 w.heap.size wr (.slice ao A.length cap) A ∧ w.grownBy wr (some dg) ∧ DiceAt B wr dg) (fun _ i _ => n - (intOf i).toNat)
  case atStart => exact ⟨0, [], none, 0, rfl, rfl, Nat.zero_le _, Nat.le_refl _, Nat.le_refl _, GRow.nil _ _ _, HG1.out, HD1.out⟩
  case round =>
    clear HG1 HD1
    obtain ⟨j, A, ao, cap, rfl, rfl, hj, hAj, hcj, hrow, hgr, hdi⟩ := hrel
    by_cases hlt : j < n
    · have hwr := hgr.size
      have hlt1 : ∀ b, (Value.slice ao A.length cap).ownBlock = some b → b < wr.heap.size := fun b e => (hrow.1.lt b e).2
      have HR := Lib.hid hrow
      have HGR := Lib.hid hgr
      have HDI := Lib.hid hdi
      have HL := Lib.hid hlt1
      clear hrow hgr hdi hlt1
      go_wp2_with (first
        | (go_at_call 27; (with_reducible refine (KG.out _ HDI.out).mono ?_); rintro e w2 ⟨⟨k, ai, li, ci, L, rfl, hp, hl4, hfr⟩, hg2, hd2⟩; have hrow2 := HR.out.kept hg2 (fun r e => by cases e; exact hgw); have hown2 := hrow2.1; have hw2 := hg2.size; have HP := Lib.hid hp; have HFR := Lib.hid hfr; have HR2 := Lib.hid hrow2; have HG2 := Lib.hid hg2; have HD2 := Lib.hid hd2; clear hp hfr hrow2 hg2 hd2)
        | (at_builtin; refine wpList_append_lies _ rfl (.tmp 8) (.tmp 11) 23 rfl w.heap.size 28 ip _ 2 32 hug hip hz0 hz1 hz2 rfl (by decide) _ A.length (gCells A) rfl (hown2.alloc _) ⟨w2.heap.size, 0, none⟩ 1 1 [.int .i64 k, .slice ai li ci] rfl rfl (cells_new _ _ _ _ rfl) (by intro u hu; simp at hu; rcases hu with rfl | rfl <;> rfl) (by decide) (by unfold maxLen; omega) (by omega) (by simp; omega) _ rfl ?_; intro g' cap' w3 hown3 hgrow hat hlt3))
      have hat2 : (Value.slice ao A.length cap).ownBlock = some g' ∨ g' = (w2.alloc (.cells #[.int .i64 k, .slice ai li ci] 28)).heap.size := hat
      have hgw3 : w2.grownBy w3 (Value.slice ao A.length cap).ownBlock := gtrans (galloc w2 _ _) hgrow
      have hpush := HR2.out.push (v' := .slice (some ⟨g', 0, none⟩) (A.length + 1) cap') (k := k) hown3 hgw3 (by
        rcases hat2 with h | h
        · exact .inl (by rw [h]; rfl)
        · refine .inr fun b e => ?_
          cases e
          show w2.heap.size ≤ g'
          rw [h]; simp) HP.out (fun hn b e => ⟨by have := HFR.out b e; omega, fun e' => by have h1 := HFR.out b e; have h2 := HL.out b e'; omega⟩)
      have hgr3 : w.grownBy w3 (some dg) := grown_own (gtrans HGR.out HG2.out) HR2.out.1 hgw3 (Nat.le_refl _)
      have hdi3 : DiceAt B w3 dg := HD2.out.same fun q hq => own_kept HR2.out.1 hgw3 q (by omega) (by omega)
      have HPU := Lib.hid hpush
      have HGR3 := Lib.hid hgr3
      have HDI3 := Lib.hid hdi3
      clear hpush hgr3 hdi3 hown3 hgrow hgw3 hat hat2
      go_roundw
      case rel => exact ⟨j + 1, A ++ [(k, .slice ai li ci, L)], some ⟨g', 0, none⟩, cap', by go_num, by rw [List.length_append]; rfl, by omega, by rw [List.length_append]; show A.length + 1 ≤ _; omega, by rw [cnt_snoc]; omega, by rw [List.length_append]; exact HPU.out, HGR3.out, HDI3.out⟩
      case measure => simp [intOf]; omega
    · have HF : Hid (SomeRow 28 w (.returned (.slice ao A.length cap)) wr ∧ w.grownBy wr (some dg) ∧ DiceAt B wr dg) := ⟨⟨ao, cap, A, rfl, hrow, by omega, by omega⟩, hgr, hdi⟩
      clear hrow hgr hdi
      go_wp2
      go_ret
      exact HF.out
theorem groups_any (B dg : Nat) (w : World) (hd : DiceAt B w dg) : Calls Tryd.prog 10 #[.pointer (some ⟨dg, 0, none⟩)] w fun e w' => SomeGroups e w' ∧ w.grownBy w' (some dg) ∧ DiceAt B w' dg :=
  (groups_row B dg w hd).mono fun e w' h => ⟨someGroups_of h.1, h.2⟩

theorem groups_one (w : World) (k : Int) (T : TypeId) : GroupsAt (w.alloc (.cells #[.int .i64 k, .slice none 0 0] T)).heap.size (w.alloc (.cells #[.int .i64 k, .slice none 0 0] T)) (.slice (some ⟨w.heap.size, 0, none⟩) 1 1) [(k, [])] := by
  refine ⟨_, 1, rfl, Nat.le_refl _, by unfold maxLen; decide, fun j hj => ?_⟩
  obtain rfl : j = 0 := by simpa using hj
  have h := two_new w (.int .i64 k) (.slice none 0 0) T
  exact ⟨w.heap.size, 0, k, [], .slice none 0 0, rfl, rfl, by simp, h.1, h.2, none, 0, rfl, Nat.le_refl _, Nat.zero_le _, fun j hj => absurd hj (Nat.not_lt_zero _)⟩
theorem enc_one : encGS [(1, [])] = { data := #[45, 65, 65, 65] } ∧ encGE [(1, [])] = 0 := by decide +kernel
set_option maxRecDepth 100000 in
theorem awake4_any (w : World) (hT : Tbs w) : Calls Tryd.prog 9 #[] w fun e w' => e = .returned (.bool true) ∧ Below w.heap.size w w' := by
  have b0 := (Below.refl w.heap.size w).alloc (o := .cells #[.int .i64 1, .slice none 0 0] 28) (Nat.le_refl _)
  have EN0 := enc_any _ _ (w.alloc (.cells #[.int .i64 1, .slice none 0 0] 28)) (groups_one w 1 28) (by decide) (by decide) (hT.go b0)
  rw [enc_one.1, enc_one.2] at EN0
  have EN := Lib.hid EN0
  clear EN0 hT
  go_enter Tryd.func9, Tryd.ntmps9
  go_wp2_with (go_at_call 12; (with_reducible refine (EN.out).mono ?_); rintro e w3 ⟨rfl, hb3⟩)
  go_ret
  exact ⟨rfl, b0.trans (hb3.mono b0.size)⟩

end Go.Proofs.YtdmgmfdmakheiaaDoor
