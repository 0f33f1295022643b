/- The sanity check of the statements of threshold. -/
import Derived.Test.YtefhhfpdponabaaTpg
namespace Go.Proofs.Ytefhhfpdponabaa
open Go.ChangeShapes Go.WideShapes Go.ChangeAt Go.RowKit
set_option linter.unusedVariables false
set_option linter.unusedSimpArgs false

theorem frs_row {B : Nat} {w : World} {g T C cap : Nat} {l : List FR} (h : Row w g T C (cellsF l)) (hg : g < B) (hc : l.length ≤ cap) (hm : cap ≤ maxLen) (hw : ∀ f ∈ l, wtB f = true) : FrsAt B w (.slice (some ⟨g, 0, none⟩) l.length cap) l := by
  have hF := frs_sub h hg 0 l.length cap (by omega) hc hm hw
  rwa [List.drop_zero, List.take_of_length_le (Nat.le_refl _), Nat.zero_mul] at hF
theorem Row.of_arr {w : World} {g : Nat} {T : TypeId} {xs : List Value} (h : Arr w g T xs) : Row w g T xs.length xs := ⟨xs.toArray, (0, 0), h, by simp, Nat.le_refl _, by simp, .inl rfl⟩
theorem frss_one {A : Nat} {w : World} {s g1 T T' C cap : Nat} {l : List FR} (hS : Arr w s T' [.slice (some ⟨g1, 0, none⟩) l.length cap]) (hR : Row w g1 T C (cellsF l)) (hA : A ≤ s) (hA1 : A ≤ g1) (hc : l.length ≤ cap) (hm : cap ≤ maxLen) (hw : ∀ f ∈ l, wtB f = true) : FrssIn A w (.slice (some ⟨s, 0, none⟩) 1 1) [l] := by
  intro w' hs' hk'
  have hsl := hS.lt
  have hgl := hR.lt
  refine ⟨_, 1, rfl, Nat.le_refl _, by unfold maxLen; omega, fun i x e => ?_⟩
  match i, e with
  | 0, e =>
    simp at e; subst e
    exact ⟨s, 0, _, rfl, hsl, (hS.of_block (hk' s hA hsl)).cellAt rfl, frs_row (hR.of_block (hk' g1 hA1 hgl)) hgl hc hm hw⟩
  | i + 1, e => simp at e
theorem frss_two {A : Nat} {w : World} {s g1 g2 T T' C C2 cap cap2 : Nat} {l r : List FR} (hS : Arr w s T' [.slice (some ⟨g1, 0, none⟩) l.length cap, .slice (some ⟨g2, 0, none⟩) r.length cap2]) (hR : Row w g1 T C (cellsF l)) (hR2 : Row w g2 T C2 (cellsF r)) (hA : A ≤ s) (hA1 : A ≤ g1) (hA2 : A ≤ g2) (hc : l.length ≤ cap) (hm : cap ≤ maxLen) (hc2 : r.length ≤ cap2) (hm2 : cap2 ≤ maxLen) (hw : ∀ f ∈ l, wtB f = true) (hw2 : ∀ f ∈ r, wtB f = true) : FrssIn A w (.slice (some ⟨s, 0, none⟩) 2 2) [l, r] := by
  intro w' hs' hk'
  have hsl := hS.lt
  have hgl := hR.lt
  have hgl2 := hR2.lt
  refine ⟨_, 2, rfl, Nat.le_refl _, by unfold maxLen; omega, fun i x e => ?_⟩
  match i, e with
  | 0, e =>
    simp at e; subst e
    exact ⟨s, 0, _, rfl, hsl, (hS.of_block (hk' s hA hsl)).cellAt rfl, frs_row (hR.of_block (hk' g1 hA1 hgl)) hgl hc hm hw⟩
  | 1, e =>
    simp at e; subst e
    exact ⟨s, 0, _, rfl, hsl, (hS.of_block (hk' s hA hsl)).cellAt rfl, frs_row (hR2.of_block (hk' g2 hA2 hgl2)) hgl2 hc2 hm2 hw2⟩
  | i + 2, e => simp at e
theorem ints_row {B : Nat} {w : World} {g T C cap : Nat} {zs : List Int} (h : Row w g T C (intsV zs)) (hg : g < B) (hc : zs.length ≤ cap) (hm : cap ≤ maxLen) : IntsAt B w (.slice (some ⟨g, 0, none⟩) zs.length cap) zs :=
  ⟨_, cap, rfl, hc, hm, fun i z e => ⟨g, 0, rfl, hg, by rw [Nat.zero_add]; exact h.cellAt (show (intsV zs)[i]? = some (.int .i64 z) by unfold intsV; rw [List.getElem?_map, e]; rfl)⟩⟩
def hv3 : List (List FR) := [[(1, 2), (1, 2), (1, 2)]]
theorem hv3_valid : validB 0 hv3 3 = true := by decide
theorem hv3_02 : enB 0 hv3 (inS [0, 2]) = true := by decide
theorem hv3_1 : enB 0 hv3 (inS [1]) = false := by decide
theorem hv3_least : leastI 0 hv3 3 = 2 := leastI_of (L := 2) hv3_valid (by
  refine ⟨⟨3, by decide, by decide, by decide⟩, ?_⟩
  have : ∀ m : Fin 8, enB 0 hv3 (bitB m.1) = true → 2 ≤ cnt (bitB m.1) 3 := by decide
  exact fun m hm h => this ⟨m, hm⟩ h)
set_option maxRecDepth 100000 in
theorem halves_any (w : World) : Calls Try.prog 23 #[] w fun e w' => (∃ (o : Option Addr) (c : Nat), e = .returned (.agg #[.int .i64 0, .slice o 1 c]) ∧ FrssIn w.heap.size w' (.slice o 1 c) hv3) ∧ Below w.heap.size w w' := by
  go_enter Try.func23, Try.ntmps23
  go_wp2
  have a0 := Arr.new w [.int .i64 0, .slice (some ⟨w.heap.size + 1 + 1 + 1, 0, none⟩) 1 1] 25
  have b0 := (Below.refl w.heap.size w).alloc (o := .cells #[.int .i64 0, .slice (some ⟨w.heap.size + 1 + 1 + 1, 0, none⟩) 1 1] 25) (Nat.le_refl _)
  have z1 : (w.alloc (.cells #[.int .i64 0, .slice (some ⟨w.heap.size + 1 + 1 + 1, 0, none⟩) 1 1] 25)).heap.size = w.heap.size + 1 := by simp
  generalize w.alloc (.cells #[.int .i64 0, .slice (some ⟨w.heap.size + 1 + 1 + 1, 0, none⟩) 1 1] 25) = w1 at a0 b0 z1 ⊢
  have a1 := a0.alloc (.cells #[.int .i64 1, .int .i64 2] 39)
  have b1 := b0.alloc (o := .cells #[.int .i64 1, .int .i64 2] 39) b0.size
  have z2 : (w1.alloc (.cells #[.int .i64 1, .int .i64 2] 39)).heap.size = w.heap.size + 1 + 1 := by simp [z1]
  generalize w1.alloc (.cells #[.int .i64 1, .int .i64 2] 39) = w2 at a1 b1 z2 ⊢
  have a2 := a1.alloc (.cells #[.int .i64 1, .int .i64 2, .int .i64 1, .int .i64 2, .int .i64 1, .int .i64 2] 39)
  have b2 := b1.alloc (o := .cells #[.int .i64 1, .int .i64 2, .int .i64 1, .int .i64 2, .int .i64 1, .int .i64 2] 39) b1.size
  have r2 : Arr (w2.alloc (.cells #[.int .i64 1, .int .i64 2, .int .i64 1, .int .i64 2, .int .i64 1, .int .i64 2] 39)) w2.heap.size 39 (cellsF [(1, 2), (1, 2), (1, 2)]) := Arr.new w2 _ _
  have z3 : (w2.alloc (.cells #[.int .i64 1, .int .i64 2, .int .i64 1, .int .i64 2, .int .i64 1, .int .i64 2] 39)).heap.size = w.heap.size + 1 + 1 + 1 := by simp [z2]
  generalize w2.alloc (.cells #[.int .i64 1, .int .i64 2, .int .i64 1, .int .i64 2, .int .i64 1, .int .i64 2] 39) = w3 at a2 b2 r2 z3 ⊢
  rw [z2] at r2
  have a3 := a2.alloc (.cells #[.slice (some ⟨w.heap.size + 1 + 1, 0, none⟩) 3 3] 26)
  have b3 := b2.alloc (o := .cells #[.slice (some ⟨w.heap.size + 1 + 1, 0, none⟩) 3 3] 26) b2.size
  have r3 := (Row.of_arr r2).alloc (.cells #[.slice (some ⟨w.heap.size + 1 + 1, 0, none⟩) 3 3] 26)
  have s3 := Arr.new w3 [.slice (some ⟨w.heap.size + 1 + 1, 0, none⟩) 3 3] 26
  rw [z3] at s3
  exact ret_thr a3 rfl rfl rfl ⟨⟨_, _, rfl, frss_one (l := [(1, 2), (1, 2), (1, 2)]) s3 r3 (by omega) (by omega) (by decide) (by unfold maxLen; omega) (by decide)⟩, b3⟩
set_option maxHeartbeats 800000 in
set_option maxRecDepth 100000 in
theorem awake13_any (w : World) : Calls Try.prog 9 #[] w fun e w' => e = .returned (.bool true) ∧ Below w.heap.size w w' := by
  have HV := Lib.hid (fun wx => halves_any wx)
  have VA := Lib.hid (fun (wx : World) (v : Value) (h : FrssAt wx.heap.size wx v hv3) => tvalid_any wx.heap.size 0 v hv3 3 wx h (Nat.le_refl _) (by decide) (by decide))
  have E1 := Lib.hid (fun (wx : World) (v sv : Value) (h : FrssAt wx.heap.size wx v hv3) (hz : IntsAt wx.heap.size wx sv [0, 2]) => tenough_any wx.heap.size 0 v sv hv3 [0, 2] 3 wx h hz (Nat.le_refl _) hv3_valid (by decide) (by decide))
  have E2 := Lib.hid (fun (wx : World) (v sv : Value) (h : FrssAt wx.heap.size wx v hv3) (hz : IntsAt wx.heap.size wx sv [1]) => tenough_any wx.heap.size 0 v sv hv3 [1] 3 wx h hz (Nat.le_refl _) hv3_valid (by decide) (by decide))
  have LE := Lib.hid (fun (wx : World) (v : Value) (h : FrssAt wx.heap.size wx v hv3) => tleast_any wx.heap.size 0 v hv3 3 wx h (Nat.le_refl _) (by decide) (by decide))
  rw [hv3_valid] at VA
  rw [hv3_02] at E1
  rw [hv3_1] at E2
  rw [hv3_least] at LE
  go_enter Try.func9, Try.ntmps9
  have b := Below.refl w.heap.size w
  go_wp2_with (first
    | (go_at_call 23; (with_reducible refine (HV.out _).mono ?_); rintro e wh ⟨⟨o, c, rfl, hF⟩, hb⟩; replace b := b.trans (hb.mono b.size); have hFn := hF.now; have hFa := (hF.below ((Below.refl wh.heap.size wh).alloc (Nat.le_refl _) (.cells #[.int .i64 0, .int .i64 2] 3))).now; have hFb := (hF.below ((Below.refl wh.heap.size wh).alloc (Nat.le_refl _) (.cells #[.int .i64 1] 3))).now; have hI2 : IntsAt (wh.alloc (.cells #[.int .i64 0, .int .i64 2] 3)).heap.size (wh.alloc (.cells #[.int .i64 0, .int .i64 2] 3)) (.slice (some ⟨wh.heap.size, 0, none⟩) 2 2) [0, 2] := ints_row (zs := [0, 2]) (Row.of_arr (Arr.new wh [.int .i64 0, .int .i64 2] 3)) (by simp) (by decide) (by unfold maxLen; omega); have hI1 : IntsAt (wh.alloc (.cells #[.int .i64 1] 3)).heap.size (wh.alloc (.cells #[.int .i64 1] 3)) (.slice (some ⟨wh.heap.size, 0, none⟩) 1 1) [1] := ints_row (zs := [1]) (Row.of_arr (Arr.new wh [.int .i64 1] 3)) (by simp) (by decide) (by unfold maxLen; omega))
    | (go_at_call 15; (with_reducible refine (VA.out _ _ hFn).mono ?_); rintro e wv ⟨rfl, hb⟩; replace b := b.trans (hb.mono b.size))
    | (go_at_call 21; (with_reducible refine (E1.out _ _ _ hFa hI2).mono ?_); rintro e wv ⟨rfl, hb⟩; replace b := (b.alloc b.size (.cells #[.int .i64 0, .int .i64 2] 3)).trans (hb.mono (by have := b.size; simp; omega)))
    | (go_at_call 21; (with_reducible refine (E2.out _ _ _ hFb hI1).mono ?_); rintro e wv ⟨rfl, hb⟩; replace b := (b.alloc b.size (.cells #[.int .i64 1] 3)).trans (hb.mono (by have := b.size; simp; omega)))
    | (go_at_call 17; (with_reducible refine (LE.out _ _ hFn).mono ?_); rintro e wv ⟨rfl, hb⟩; replace b := b.trans (hb.mono b.size)))
  go_ret
  exact ⟨rfl, b⟩
end Go.Proofs.Ytefhhfpdponabaa
