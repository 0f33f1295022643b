/- The document's Fit. -/
import Derived.Test.YtmlmdidaldcoiaaGreatDoorVrf
namespace Go.Proofs.YtmlmdidaldcoiaaGreatDoor
open Go Go.ChangeShapes Go.WideShapes Go.ChangeAt Go.RowKit
set_option linter.unusedVariables false
set_option linter.unusedSimpArgs false

set_option maxHeartbeats 3200000 in
set_option maxRecDepth 100000 in
theorem rfit_any {d : Nat} {S : Nat → Prop} (cs : List Value) (x : ND) (p : ByteArray) (k : Int) (hk : wI k) (w : World) (h : NodeIn (d + 1) S w cs x) (hS : ∀ b, S b → b < w.heap.size) (hlow : lowN (d + 1) x) (hd : 1 ≤ d) (hF : validN 8 x = true → x.kind = 5 → FitOk x) (hT : Ftab w) :
  Calls Tryz.prog 12 #[.agg cs.toArray, .string p, .int .i64 k] w (FtPost (d + 1) x p k w) := by
 obtain ⟨a1, l1, c1, a2, l2, c2, rfl⟩ := h.slices
 obtain ⟨w1, hw1⟩ : ∃ W, W = (w.alloc (.cells #[.int .i64 x.kind, .bool x.bool, .int .i64 x.num, .string x.text, .slice a1 l1 c1, .slice a2 l2 c2] 30)).alloc (.cells #[.int .i64 0, .bool false, .int .i64 0, .string ⟨#[]⟩, .slice none 0 0, .slice none 0 0] 30) := ⟨_, rfl⟩
 have z1 : (w.alloc (.cells #[.int .i64 x.kind, .bool x.bool, .int .i64 x.num, .string x.text, .slice a1 l1 c1, .slice a2 l2 c2] 30)).heap.size = w.heap.size + 1 := by simp
 have b1 : Below w.heap.size w w1 := by rw [hw1]; exact ((Below.refl _ _).alloc (Nat.le_refl _) _).alloc (by simp) _
 have k0 : w1.heap[w.heap.size]? = some (.cells #[.int .i64 x.kind, .bool x.bool, .int .i64 x.num, .string x.text, .slice a1 l1 c1, .slice a2 l2 c2] 30 (0, 0)) := by rw [hw1]; exact (Below.heap_alloc _ _ _ (by omega)).trans (heap_alloc_new _ _)
 have k1 : w1.heap[w.heap.size + 1]? = some (.cells #[.int .i64 0, .bool false, .int .i64 0, .string ⟨#[]⟩, .slice none 0 0, .slice none 0 0] 30 (0, 0)) := by rw [hw1, ← z1]; exact heap_alloc_new _ _
 have z3 : w1.heap.size = w.heap.size + 2 := by rw [hw1]; simp
 have HK := Lib.hid hk
 have HN := Lib.hid h
 have HS := Lib.hid hS
 have HL := Lib.hid hlow
 have HT := Lib.hid hT
 have FC := Lib.hid (fit_cases x p k hF)
 have Z3 := Lib.hid z3
 clear h hS hlow hT hF z1 z3
 go_enter Tryz.func12, Tryz.ntmps12
 go_upto_region 1 with fail
 rw [← hw1]
 clear hw1
 go_upto_region 2 with fail
 have b2 := (Below.refl w1.heap.size w1).alloc (o := .cells #[.string p, .int .i64 1, .int .i64 0, .int .i64 k, .int .i64 0] 39) (Nat.le_refl _)
 have hW : FtW w #[.int .i64 x.kind, .bool x.bool, .int .i64 x.num, .string x.text, .slice a1 l1 c1, .slice a2 l2 c2] w1.heap.size ⟨p, 1, 0, k, 0⟩ (w1.alloc (.cells #[.string p, .int .i64 1, .int .i64 0, .int .i64 k, .int .i64 0] 39)) :=
  ⟨(b2.block _ (lt_of_block k0)).trans k0, (b2.block _ (lt_of_block k1)).trans k1, heap_alloc_new w1 _, Nat.le_of_eq Z3.out.symm, b1.trans (b2.mono b1.size)⟩
 generalize w1.alloc _ = w2 at hW ⊢
 have HGV := Lib.hid Z3.out
 generalize w1.heap.size = gv at hW HGV ⊢
 have HW2 := Lib.hid hW
 have c5 := five_of hW.ver
 have RT : Hid (Calls Tryz.prog 26 #[.agg #[.string p, .int .i64 1, .int .i64 0, .int .i64 k, .int .i64 0]] w2 fun e w' => e = .returned (.tuple #[.string (fitT p k 0), .int .i64 (vtE ⟨p, 1, 0, k, 0⟩)]) ∧ Below w2.heap.size w2 w') := Lib.hid (rvtext_any ⟨p, 1, 0, k, 0⟩ w2)
 clear hW b1 b2 k0 k1 hk
 rcases FC.out with ⟨f1, f2⟩ | ⟨f1, f2, f3⟩ | hcd
 ·rw [show vtE ⟨p, 1, 0, k, 0⟩ = 2 by unfold vtE; rw [f1]; rfl] at RT
  have FE := Lib.hid f2
  clear FC f1 f2
  go_upto_region 3 with (go_at_call 26; (with_reducible refine (RT.out).mono ?_); rintro e w3 ⟨rfl, hb3⟩)
  have HW3 := Lib.hid (HW2.out.step hb3)
  have f6 := free_six HW3.out.res
  have c6 := six_of HW3.out.res
  clear c5 RT hb3
  go_wp2
  refine ret_node3 (v := .string ⟨#[]⟩) (v2 := .int .i64 2) HW3.out.res Tryz.results12 rfl rfl rfl rfl ?_
  exact ft_none FE.out (by decide) rfl (HW3.out.end_ _ _ _ _ _ _)
 ·rw [show vtE ⟨p, 1, 0, k, 0⟩ = 0 by unfold vtE; rw [f1]; rfl] at RT
  have FE := Lib.hid f3
  have IV := Lib.hid (fun (wx : World) (hb : Below w.heap.size w wx) => risvalid_any _ x wx (HN.out.same fun b q => hb.block b (HS.out b q)) (fun b q => Nat.lt_of_lt_of_le (HS.out b q) hb.size) (lowV_of_lowN HL.out) (HT.out.below hb).u)
  go_upto_region 5 with (go_at_call 26; (with_reducible refine (RT.out).mono ?_); rintro e w3 ⟨rfl, hb3⟩)
  have HW3 := Lib.hid (HW2.out.step hb3)
  have cb := six_of HW3.out.box
  clear c5 RT hb3 FC f1 f3
  cases hv : validN 8 x with
  | false =>
   rw [hv] at IV
   clear f2 hv
   go_upto_region 6 with (go_at_call 27; (with_reducible refine (IV.out _ HW3.out.bel).mono ?_); rintro e w4 ⟨rfl, hb4⟩)
   have HW4 := Lib.hid (HW3.out.step hb4)
   have f6 := free_six HW4.out.res
   have c6 := six_of HW4.out.res
   clear cb IV hb4
   go_wp2
   refine ret_node3 (v := .string ⟨#[]⟩) (v2 := .int .i64 1) HW4.out.res Tryz.results12 rfl rfl rfl rfl ?_
   exact ft_none FE.out (by decide) rfl (HW4.out.end_ _ _ _ _ _ _)
  | true =>
   rw [hv] at IV
   have hn5 : ¬ x.kind = 5 := fun e => f2 ⟨e, hv⟩
   clear f2 hv
   go_upto_region 6 with (go_at_call 27; (with_reducible refine (IV.out _ HW3.out.bel).mono ?_); rintro e w4 ⟨rfl, hb4⟩; (have cb4 := six_of ((hb4.block _ (lt_of_block HW3.out.box)).trans HW3.out.box)))
   have HW4 := Lib.hid (HW3.out.step hb4)
   have f6 := free_six HW4.out.res
   have c6 := six_of HW4.out.res
   clear cb IV hb4
   go_wp2
   refine ret_node3 (v := .string ⟨#[]⟩) (v2 := .int .i64 1) HW4.out.res Tryz.results12 rfl rfl rfl rfl ?_
   exact ft_none FE.out (by decide) rfl (HW4.out.end_ _ _ _ _ _ _)
 ·obtain ⟨f1, f2, f3⟩ : validV ⟨p, 1, 0, k, 0⟩ = true ∧ x.kind = 5 ∧ validN 8 x = true := by rcases hcd with ⟨a, b, c, -⟩ | ⟨a, b, c, -⟩ <;> exact ⟨a, b, c⟩
  have HCD := Lib.hid hcd
  clear hcd
  have h5 : x.kind = 5 := f2
  have hnv : validN 8 x = true := f3
  have hm : MapOk 7 x := (mapOk_iff h5).1 hnv
  rw [show vtE ⟨p, 1, 0, k, 0⟩ = 0 by unfold vtE; rw [f1]; rfl] at RT
  have IV := Lib.hid (fun (wx : World) (hb : Below w.heap.size w wx) => risvalid_any _ x wx (HN.out.same fun b q => hb.block b (HS.out b q)) (fun b q => Nat.lt_of_lt_of_le (HS.out b q) hb.size) (lowV_of_lowN HL.out) (HT.out.below hb).u)
  rw [hnv] at IV
  rw [h5] at IV HW2
  rw [h5]
  have HVAL := Lib.hid f1
  have HM := Lib.hid hm
  have hlw : ∀ t, lowN (d + 1) (withV x t) := fun t => low_with t HL.out (by have := hm.most; omega)
  have HLW := Lib.hid hlw
  have NT := Lib.hid (fun wx : World => rtext5_any (fitT p k 0) wx)
  have CX := Lib.hid (fun (S : Nat → Prop) (cs : List Value) (y : ND) (wx : World) (h : NodeIn d S wx cs y) (hS : ∀ b, S b → b < wx.heap.size) (hl : lowN d y) => rcopy_any d S cs y wx h hS hl)
  obtain ⟨_, _, ecs, -, hns, his⟩ := HN.out
  simp only [List.cons.injEq, and_true, true_and] at ecs
  obtain ⟨rfl, rfl⟩ := ecs
  have HNS := Lib.hid hns
  have HIS := Lib.hid his
  have hsz : (fitT p k 0).size = 17 := (vt_ok f1).2.1
  have HSZ := Lib.hid hsz
  clear FC f1 f2 f3 h5 hnv hm hlw hns his hsz
  go_upto_region 5 with (go_at_call 26; (with_reducible refine (RT.out).mono ?_); rintro e w3 ⟨rfl, hb3⟩)
  have HW3 := Lib.hid (HW2.out.step hb3)
  have cb := six_of HW3.out.box
  clear c5 RT hb3
  go_upto_region 7 with (go_at_call 27; (with_reducible refine (IV.out _ HW3.out.bel).mono ?_); rintro e w4 ⟨rfl, hb4⟩; (have cb4 := six_of ((hb4.block _ (lt_of_block HW3.out.box)).trans HW3.out.box)))
  have HW4 := Lib.hid (HW3.out.step hb4)
  clear cb IV hb4 cb4
  go_upto_region 8 with (go_at_call 28; (with_reducible refine (NT.out _).mono ?_); rintro e w5 ⟨rfl, hb5⟩)
  have bs := (Below.refl w4.heap.size w4).alloc (o := .cells #[.string ⟨#[118]⟩] 9) (Nat.le_refl _)
  have hlo4 := HW4.out.lo
  have hver4 := lt_of_block HW4.out.ver
  have on := World.ownsRow_lit (base := w.heap.size + 3) (e := 9) (size := 1) w4 #[.string ⟨#[118]⟩] 1 (by omega) (by decide) rfl
  have b5 := bs.trans (hb5.mono bs.size)
  have sb := b5.size
  have bi := (Below.refl w5.heap.size w5).alloc (o := .cells #[.int .i64 3, .bool false, .int .i64 0, .string (fitT p k 0), .slice none 0 0, .slice none 0 0] 30) (Nat.le_refl _)
  have oi := World.ownsRow_lit (base := w.heap.size + 3) (e := 30) (size := 6) w5 #[.int .i64 3, .bool false, .int .i64 0, .string (fitT p k 0), .slice none 0 0, .slice none 0 0] 1 (by omega) (by decide) rfl
  have bn := (Below.refl (w5.alloc (.cells #[.int .i64 3, .bool false, .int .i64 0, .string (fitT p k 0), .slice none 0 0, .slice none 0 0] 30)).heap.size (w5.alloc (.cells #[.int .i64 3, .bool false, .int .i64 0, .string (fitT p k 0), .slice none 0 0, .slice none 0 0] 30))).alloc (o := .cells #[.int .i64 5, .bool false, .int .i64 0, .string ⟨#[]⟩, .slice (some ⟨w4.heap.size, 0, none⟩) 1 1, .slice (some ⟨w5.heap.size, 0, none⟩) 1 1] 30) (Nat.le_refl _)
  have kn := heap_alloc_new (w5.alloc (.cells #[.int .i64 3, .bool false, .int .i64 0, .string (fitT p k 0), .slice none 0 0, .slice none 0 0] 30)) (.cells #[.int .i64 5, .bool false, .int .i64 0, .string ⟨#[]⟩, .slice (some ⟨w4.heap.size, 0, none⟩) 1 1, .slice (some ⟨w5.heap.size, 0, none⟩) 1 1] 30)
  have zi : (w5.alloc (.cells #[.int .i64 3, .bool false, .int .i64 0, .string (fitT p k 0), .slice none 0 0, .slice none 0 0] 30)).heap.size = w5.heap.size + 1 := by simp
  have szs : (w4.alloc (.cells #[.string ⟨#[118]⟩] 9)).heap.size = w4.heap.size + 1 := by simp
  have s3 := hb5.size
  have bW := bi.trans (bn.mono bi.size)
  have bWW := b5.trans (bW.mono b5.size)
  have on2 := owns_below (owns_below on hb5) bW
  have oi2 := owns_below oi bn
  clear on oi
  obtain ⟨W, hW⟩ : ∃ W, W = (w5.alloc (.cells #[.int .i64 3, .bool false, .int .i64 0, .string (fitT p k 0), .slice none 0 0, .slice none 0 0] 30)).alloc (.cells #[.int .i64 5, .bool false, .int .i64 0, .string ⟨#[]⟩, .slice (some ⟨w4.heap.size, 0, none⟩) 1 1, .slice (some ⟨w5.heap.size, 0, none⟩) 1 1] 30) := ⟨_, rfl⟩
  rw [← hW] at bW bWW on2 oi2 kn bn ⊢
  rw [zi] at kn
  have hWf := HW4.out.step bWW
  have V0 : R3 30 9 d (w.heap.size + 3) (w5.heap.size + 1) W (.slice (some ⟨w4.heap.size, 0, none⟩) 1 1) (.slice (some ⟨w5.heap.size, 0, none⟩) 1 1) [sV] [([.int .i64 3, .bool false, .int .i64 0, .string (fitT p k 0), .slice none 0 0, .slice none 0 0], tN (fitT p k 0))] := by
   refine ⟨⟨on2, fun s hs => ?_⟩, by simpa [nCells] using oi2, ?_, ?_, ?_, fun y hy => ?_, lt_of_block kn⟩
   ·cases List.mem_singleton.1 hs; decide
   ·intro e; have := Option.some.inj (show some w4.heap.size = some (w5.heap.size + 1) from e); omega
   ·intro e; have := Option.some.inj (show some w5.heap.size = some (w5.heap.size + 1) from e); omega
   ·intro b e e'; have := Option.some.inj (show some w4.heap.size = some b from e); have := Option.some.inj (show some w5.heap.size = some b from e'); omega
   ·cases List.mem_singleton.1 hy
    exact (node_leaf _ W 3 false 0 (fitT p k 0) (by have := HSZ.out; unfold maxLen; omega)).deeper hd
  have F0 : F3 30 39 w (w5.heap.size + 1) #[.int .i64 5, .bool x.bool, .int .i64 x.num, .string x.text, .slice a1 l1 c1, .slice a2 l2 c2] ⟨p, 1, 0, k, 0⟩ (.slice (some ⟨w4.heap.size, 0, none⟩) 1 1) (.slice (some ⟨w5.heap.size, 0, none⟩) 1 1) W :=
   ⟨hWf.box, hWf.res, by have := hWf.ver; rw [HGV.out] at this; exact this, kn, by omega, hWf.bel⟩
  clear on2 oi2 kn bW bWW bi bn b5 bs hW zi sb szs s3 hWf hlo4 hver4 hb5
  generalize w5.heap.size + 1 = gb at V0 F0 ⊢
  generalize Value.slice (some ⟨w4.heap.size, 0, none⟩) 1 1 = vn0 at V0 F0 ⊢
  generalize Value.slice (some ⟨w5.heap.size, 0, none⟩) 1 1 = vi0 at V0 F0 ⊢
  have cW := six_of F0.box
  have VV := Lib.hid V0
  have FF := Lib.hid F0
  have hl1 : l1 = x.names.length := by obtain ⟨_, _, e, -⟩ := HNS.out; simp only [Value.slice.injEq] at e; exact e.2.1
  have hl2 : l2 = x.items.length := by obtain ⟨_, _, e, -⟩ := HIS.out; simp only [Value.slice.injEq] at e; exact e.2.1
  subst hl1 hl2
  have hln := HL.out.1
  have hli := HL.out.2.1
  clear V0 F0
  go_upto_region 9 with fail
  clear cW
  go_loopw [47] (fun i wr => ∃ j : Nat, i = .int .i64 j ∧ j ≤ x.names.length ∧ ∃ (vn vi : Value) (ns : List ByteArray) (A : List NC), R3 30 9 d (w.heap.size + 3) gb wr vn vi ns A ∧ F3 30 39 w gb #[.int .i64 5, .bool x.bool, .int .i64 x.num, .string x.text, .slice a1 x.names.length c1, .slice a2 x.items.length c2] ⟨p, 1, 0, k, 0⟩ vn vi wr ∧ ns = sV :: (keepL (x.names.take j) (x.items.take j)).map (·.1) ∧ nodesOf A = tN (fitT p k 0) :: (keepL (x.names.take j) (x.items.take j)).map (·.2)) (fun i _ => x.names.length - (intOf i).toNat)
  case atStart => exact ⟨0, rfl, Nat.zero_le _, _, _, _, _, VV.out, FF.out, rfl, rfl⟩
  case round =>
   clear VV FF
   obtain ⟨j, rfl, hj, vn, vi, ns, A, hst, hff, hns, hA⟩ := hrel
   have hkl := keep_length (x.names.take j) (x.items.take j)
   have hlt0 : (x.items.take j).length ≤ x.items.length := by rw [List.length_take]; exact Nat.min_le_right _ _
   have hnl : ns.length ≤ 1000001 := by rw [hns, List.length_cons, List.length_map]; omega
   have hAl : A.length ≤ 1000001 := by
    have := congrArg List.length hA
    rw [nodesOf, List.length_map, List.length_cons, List.length_map] at this
    omega
   clear hkl hlt0
   have HST := Lib.hid hst
   have HFF := Lib.hid hff
   have HNSE := Lib.hid hns
   have HA := Lib.hid hA
   clear hst hff hns hA
   by_cases hlt : j < x.names.length
   ·have hlt' : (j : Int) < (x.names.length : Int) := by omega
    have hj0 : (0 : Int) ≤ (j : Int) := by omega
    have hji : j < x.items.length := by have := HM.out.len; omega
    have hlt2 : (j : Int) < (x.items.length : Int) := by omega
    have hjm : (x.names.length : Int) ≤ 1000000 := by omega
    have HLT := Lib.hid hlt
    obtain ⟨s, hsn⟩ : ∃ s, x.names[j]? = some s := ⟨_, List.getElem?_eq_getElem hlt⟩
    obtain ⟨bq, oq, rfl, hSq, hcq⟩ := HNS.out.get hsn
    have hsq := HNS.out.sizes s (List.mem_of_getElem? hsn)
    obtain ⟨-, -, -, b, off, y, b1, m1, n1, b2, m2, n2, rfl, hSb, hx, hnd, q0, q1, q2, q3, q4, q5⟩ := HIS.out.at hji
    have hke := keep_snoc hsn hx
    have hB := HFF.out.bel
    have rq := (hB.cell (p := ⟨bq, oq + j, none⟩) (HS.out _ hSq)).trans hcq
    have HX := Lib.hid hx
    have HKE := Lib.hid hke
    have HND := Lib.hid hnd
    have Q := Lib.hid (And.intro q0 (And.intro q1 (And.intro q2 (And.intro q3 (And.intro q4 q5)))))
    clear hsn hke hB hcq hnd q0 q1 q2 q3 q4 q5 hx
    by_cases hsv : s = sV
    ·have e1 : (s.toList == [118]) = true := by rw [← sV_list]; exact str_beq hsv
     have HSV := Lib.hid hsv
     clear hsv
     go_wp2
     go_roundw
     case rel => exact ⟨j + 1, by go_num, by have := HLT.out; omega, vn, vi, ns, A, HST.out, HFF.out, by rw [HKE.out, if_pos HSV.out, List.append_nil]; exact HNSE.out, by rw [HKE.out, if_pos HSV.out, List.append_nil]; exact HA.out⟩
     case measure => have := HLT.out; simp [intOf]; omega
    ·have e1 : (s.toList == [118]) = false := by rw [← sV_list]; exact str_bne hsv
     have HSV := Lib.hid hsv
     clear hsv
     obtain ⟨⟨an, cn, rfl⟩, ai, ci, rfl⟩ := HST.out.forms
     obtain ⟨iq, hiq, hy0, hy1, hy2⟩ := infos
     obtain ⟨ip, hip, hz0, hz1, hz2⟩ := infon
     have HIQ := Lib.hid hiq
     have HIP := Lib.hid hip
     have hus := Tryz.underlying27
     have hug := Tryz.underlying28
     clear hiq hip
     go_upto_region 12 with fail
     have bd : Below wr.heap.size wr wr.drew := (Below.refl _ _).drew
     have HSD := Lib.hid (HST.out.below bd)
     have HFD := Lib.hid (HFF.out.below bd)
     have CQ := Lib.hid (fun (wx : World) (hf : F3 30 39 w gb #[.int .i64 5, .bool x.bool, .int .i64 x.num, .string x.text, .slice (some ⟨bq, oq, none⟩) x.names.length c1, .slice (some ⟨b, off, none⟩) x.items.length c2] ⟨p, 1, 0, k, 0⟩ (.slice an ns.length cn) (.slice ai A.length ci) wx) => And.intro (six_of hf.nod).2.2.2.2.1 (And.intro (six_of hf.nod).2.2.2.2.2 (And.intro (six_of hf.box).2.2.2.2.2 (show wx.cell? ⟨b, off + j * 6, none⟩ = _ ∧ wx.cell? ⟨b, off + j * 6 + 1, none⟩ = _ ∧ wx.cell? ⟨b, off + j * 6 + 2, none⟩ = _ ∧ wx.cell? ⟨b, off + j * 6 + 3, none⟩ = _ ∧ wx.cell? ⟨b, off + j * 6 + 4, none⟩ = _ ∧ wx.cell? ⟨b, off + j * 6 + 5, none⟩ = _ from ⟨(hf.bel.cell (p := ⟨b, off + j * 6, none⟩) (HS.out _ hSb)).trans Q.out.1, (hf.bel.cell (p := ⟨b, off + j * 6 + 1, none⟩) (HS.out _ hSb)).trans Q.out.2.1, (hf.bel.cell (p := ⟨b, off + j * 6 + 2, none⟩) (HS.out _ hSb)).trans Q.out.2.2.1, (hf.bel.cell (p := ⟨b, off + j * 6 + 3, none⟩) (HS.out _ hSb)).trans Q.out.2.2.2.1, (hf.bel.cell (p := ⟨b, off + j * 6 + 4, none⟩) (HS.out _ hSb)).trans Q.out.2.2.2.2.1, (hf.bel.cell (p := ⟨b, off + j * 6 + 5, none⟩) (HS.out _ hSb)).trans Q.out.2.2.2.2.2⟩))))
     refine wp_region_plan (fun w' => w'.cell? ⟨gb, 4, none⟩ = some (.slice an ns.length cn) ∧ w'.cell? ⟨gb, 5, none⟩ = some (.slice ai A.length ci) ∧ w'.cell? ⟨w.heap.size, 5, none⟩ = some (.slice (some ⟨b, off, none⟩) x.items.length c2) ∧ (w'.cell? ⟨b, off + j * 6, none⟩ = some (.int .i64 y.kind) ∧ w'.cell? ⟨b, off + j * 6 + 1, none⟩ = some (.bool y.bool) ∧ w'.cell? ⟨b, off + j * 6 + 2, none⟩ = some (.int .i64 y.num) ∧ w'.cell? ⟨b, off + j * 6 + 3, none⟩ = some (.string y.text) ∧ w'.cell? ⟨b, off + j * 6 + 4, none⟩ = some (.slice b1 m1 n1) ∧ w'.cell? ⟨b, off + j * 6 + 5, none⟩ = some (.slice b2 m2 n2))) [1, 6, 8, 11] (.take 0 (.take 1 (.take 2 (.take 5 (.take 6 (.take 7 (.take 8 (.take 9 (.take 10 (.take 11 (.ask 3 true (.ask 4 true (.take 15 (.ask 12 true (.ask 13 true (.ask 14 false (.ask 16 false (.take 17 (.ask 18 false .stop .stop)) .stop) .stop) .stop) .stop)) .stop) .stop))))))))))) (by kernel_rfl) (by kernel_rfl) (fun _ d _ _ _ h => by cases d <;> exact h) (CQ.out _ HFD.out) ?_
     clear HST HFF
     generalize wr.drew = wd at bd HSD HFD ⊢
     clear bd rq
     refine take_any _ ?_ rfl rfl ?_ (fun K hK => ?_); rotate_left; (intro w0; go_simp; (try rfl)); (go_simp; refine hK _ ?_; clear hK K)
     refine take_held _ ?_ rfl rfl (by decide) ?_ (fun K hK => ?_); rotate_left; (intro w0 hw0; go_simp; (try rfl)); (go_simp; refine hK _ ?_; clear hK K)
     refine take_any _ ?_ rfl rfl ?_ (fun K hK => ?_); rotate_left; (intro w0; go_simp; (try rfl)); (go_simp; refine hK _ ?_; clear hK K)
     refine take_any _ ?_ rfl rfl ?_ (fun K hK => ?_); rotate_left; (intro w0; go_simp; (try rfl)); (go_simp; refine hK _ ?_; clear hK K)
     refine take_held _ ?_ rfl rfl (by decide) ?_ (fun K hK => ?_); rotate_left; (intro w0 hw0; go_simp; (try rfl)); (go_simp; refine hK _ ?_; clear hK K)
     refine take_any _ ?_ rfl rfl ?_ (fun K hK => ?_); rotate_left; (intro w0; go_simp; (try rfl)); (go_simp; refine hK _ ?_; clear hK K)
     refine take_held _ ?_ rfl rfl (by decide) ?_ (fun K hK => ?_); rotate_left; (intro w0 hw0; go_simp; (try rfl)); (go_simp; refine hK _ ?_; clear hK K)
     refine take_any _ ?_ rfl rfl ?_ (fun K hK => ?_); rotate_left; (intro w0; go_simp; (try rfl)); (go_simp; refine hK _ ?_; clear hK K)
     refine take_any _ ?_ rfl rfl ?_ (fun K hK => ?_); rotate_left; (intro w0; go_simp; (try rfl)); (go_simp; refine hK _ ?_; clear hK K)
     refine take_held _ ?_ rfl rfl (by decide) ?_ (fun K hK => ?_); rotate_left; (intro w0 hw0; go_simp; (try rfl)); (go_simp; refine hK _ ?_; clear hK K)
     have b7 := (Below.refl wd.heap.size wd).alloc (o := .cells #[.string s] 9) (Nat.le_refl _)
     have hP7 := HSD.out.below b7
     have HP7 := Lib.hid hP7
     have HF7 := Lib.hid (HFD.out.below b7)
     have HN7 := Lib.hid (cells_new wd #[.string s] 9 [.string s] rfl)
     have HO7 := Lib.hid hP7.names.1
     have hbs7 : w.heap.size + 3 ≤ (wd.alloc (.cells #[.string s] 9)).heap.size := by have := hP7.gl; have := HFD.out.lo; omega
     have HBS7 := Lib.hid hbs7
     clear b7 hP7 hbs7
     refine ask_step _ rfl trivial ?_
     go_wp2_with fail
     generalize wd.alloc _ = w7 at HP7 HF7 HN7 HO7 HBS7 ⊢
     refine Seg.mk ⟨CQ.out _ HF7.out, ?_⟩
     refine ask_step _ rfl trivial ?_
     go_wp2_with ((refine wpList_append_lies _ rfl (.tmp 55) (.tmp 57) 27 rfl (w.heap.size + 3) 9 iq (.string ⟨#[]⟩) 1 16 hus HIQ.out hy0 hy1 hy2 rfl (by decide) (.slice an ns.length cn) ns.length _ rfl HO7.out ⟨wd.heap.size, 0, none⟩ 1 1 [.string s] rfl rfl HN7.out (by intro u hu; simp at hu; subst hu; rfl) (by decide) (by unfold maxLen; omega) (by omega) HBS7.out _ rfl ?_); intro gg cc W8 hown hgrow hat hltg)
     have hlo7 : ∀ g, (Value.slice an ns.length cn).ownBlock = some g → w.heap.size + 3 ≤ g ∧ g ≠ gb := fun g e => ⟨(HP7.out.names.1.lt _ e).1, fun q => HP7.out.s1 (q ▸ e)⟩
     have HP8 := Lib.hid (HP7.out.name hown hgrow (own_at hat) hsq)
     have HF8 := Lib.hid (HF7.out.grown hgrow hlo7)
     clear hown hgrow hat HO7 HN7 HP7 HF7 hlo7 HBS7 HSD HFD
     refine Seg.mk ⟨CQ.out _ HF8.out, ?_⟩
     refine take_any _ ?_ rfl rfl ?_ (fun K hK => ?_); rotate_left; (intro w0; go_simp; (try rfl)); (go_simp; refine hK _ ?_; clear hK K)
     have CC := Lib.hid (CX.out S _ y W8 (HND.out.same fun b q => HF8.out.bel.block b (HS.out b q)) (fun b q => Nat.lt_of_lt_of_le (HS.out b q) HF8.out.bel.size) (HL.out.2.2 y (List.mem_of_getElem? HX.out)))
     refine ask_step _ rfl trivial ?_
     go_wp2_with (go_at_call 29; (with_reducible refine (CC.out).mono ?_); rintro e w9 ⟨cy, rfl, hn9, hb9⟩; obtain ⟨b3, m3, n3, b4, m4, n4, rfl⟩ := hn9.slices)
     have HP9 := Lib.hid (HP8.out.below hb9)
     have HF9 := Lib.hid (HF8.out.below hb9)
     refine Seg.mk ⟨CQ.out _ HF9.out, ?_⟩
     have b10 := (Below.refl w9.heap.size w9).alloc (o := .cells #[.int .i64 y.kind, .bool y.bool, .int .i64 y.num, .string y.text, .slice b3 m3 n3, .slice b4 m4 n4] 30) (Nat.le_refl _)
     have HN10 := Lib.hid (cells_new w9 #[.int .i64 y.kind, .bool y.bool, .int .i64 y.num, .string y.text, .slice b3 m3 n3, .slice b4 m4 n4] 30 [.int .i64 y.kind, .bool y.bool, .int .i64 y.num, .string y.text, .slice b3 m3 n3, .slice b4 m4 n4] rfl)
     have hPA := HP9.out.below b10
     have HFA := Lib.hid (HF9.out.below b10)
     have HOA := Lib.hid hPA.items
     have HONE := Lib.hid hn9.one
     have hbsA : w.heap.size + 3 ≤ (w9.alloc (.cells #[.int .i64 y.kind, .bool y.bool, .int .i64 y.num, .string y.text, .slice b3 m3 n3, .slice b4 m4 n4] 30)).heap.size := by have := hPA.gl; have := HF9.out.lo; omega
     have HBSA := Lib.hid hbsA
     have HVA : Hid (NodeIn d (fun b => w.heap.size + 3 ≤ b ∧ b < (w9.alloc (.cells #[.int .i64 y.kind, .bool y.bool, .int .i64 y.num, .string y.text, .slice b3 m3 n3, .slice b4 m4 n4] 30)).heap.size ∧ b ≠ gb ∧ (Value.slice (some ⟨gg, 0, none⟩) (ns.length + 1) cc).ownBlock ≠ some b ∧ (Value.slice ai A.length ci).ownBlock ≠ some b) (w9.alloc (.cells #[.int .i64 y.kind, .bool y.bool, .int .i64 y.num, .string y.text, .slice b3 m3 n3, .slice b4 m4 n4] 30)) [.int .i64 y.kind, .bool y.bool, .int .i64 y.num, .string y.text, .slice b3 m3 n3, .slice b4 m4 n4] y) := by
      refine Lib.hid ((hn9.same (w' := w9.alloc (.cells #[.int .i64 y.kind, .bool y.bool, .int .i64 y.num, .string y.text, .slice b3 m3 n3, .slice b4 m4 n4] 30)) fun b q => b10.block b q.2.1).mono fun b q => ?_)
      have h1 := q.1
      have h2 := HP8.out.gl
      have h3 := HF8.out.lo
      exact ⟨by omega, Nat.lt_of_lt_of_le q.2.1 b10.size, by omega, fun e => by have := (HP8.out.names.1.lt b e).2; omega, fun e => by have := (HP8.out.items.lt b e).2; omega⟩
     have HPA := Lib.hid hPA
     clear b10 hPA hbsA hn9 hb9 CC HP8 HF8 HP9
     refine ask_step _ rfl trivial ?_
     go_wp2_with fail
     generalize w9.alloc _ = w10 at HPA HFA HN10 HOA HBSA HVA ⊢
     refine Seg.mk ⟨CQ.out _ HFA.out, ?_⟩
     refine ask_late _ rfl trivial ?_
     go_wp2_with ((refine wpList_append_lies _ rfl (.tmp 60) (.tmp 67) 28 rfl (w.heap.size + 3) 30 ip (.agg #[.int .i64 0, .bool false, .int .i64 0, .string ⟨#[]⟩, .slice none 0 0, .slice none 0 0]) 6 88 hug HIP.out hz0 hz1 hz2 rfl (by decide) (.slice ai A.length ci) A.length _ rfl HOA.out ⟨w9.heap.size, 0, none⟩ 1 1 [.int .i64 y.kind, .bool y.bool, .int .i64 y.num, .string y.text, .slice b3 m3 n3, .slice b4 m4 n4] rfl rfl HN10.out HONE.out (by decide) (by unfold maxLen; omega) (by omega) HBSA.out _ rfl ?_); intro g2 cc2 W11 hown hgrow hat hlt9)
     have hloA : ∀ g, (Value.slice ai A.length ci).ownBlock = some g → w.heap.size + 3 ≤ g ∧ g ≠ gb := fun g e => ⟨(HPA.out.items.lt _ e).1, fun q => HPA.out.s2 (q ▸ e)⟩
     have HPB := Lib.hid (HPA.out.item hown hgrow (own_at hat) HVA.out)
     have HFB := Lib.hid (HFA.out.grown hgrow hloA)
     clear hown hgrow hat HOA HN10 HPA HFA hloA HBSA HVA HF9 HONE
     have fB := free_six HFB.out.nod
     have dB := six_of HFB.out.nod
     have HFC := Lib.hid ((HFB.out.set4 (.slice (some ⟨gg, 0, none⟩) (ns.length + 1) cc)).set5 (.slice (some ⟨g2, 0, none⟩) (A.length + 1) cc2))
     have HPC := Lib.hid ((HPB.out.kept (grown_set W11 gb 4 (.slice (some ⟨gg, 0, none⟩) (ns.length + 1) cc)) (fun r e => .inr (Option.some.inj e).symm)).kept (grown_set _ gb 5 (.slice (some ⟨g2, 0, none⟩) (A.length + 1) cc2)) (fun r e => .inr (Option.some.inj e).symm))
     refine Seg.mk ?_
     refine ask_late _ rfl trivial ?_
     go_wp2
     refine Seg.mk ?_
     refine take_any _ ?_ rfl rfl ?_ (fun K hK => ?_); rotate_left; (intro w0; go_simp; (try rfl)); (go_simp; refine hK _ ?_; clear hK K)
     refine ask_last _ rfl trivial ?_
     go_wp2
     go_roundw
     case rel => exact ⟨j + 1, by go_num, by have := HLT.out; omega, _, _, _, _, HPC.out, HFC.out, by rw [HKE.out, if_neg HSV.out, HNSE.out]; simp, by rw [HKE.out, if_neg HSV.out, List.map_append, ← List.cons_append, ← HA.out]; simp [nodesOf]⟩
     case measure => have := HLT.out; simp [intOf]; omega
   ·have hlt' : ¬ (j : Int) < (x.names.length : Int) := by omega
    have hjl : j = x.names.length := by omega
    have hdr : withV x (fitT p k 0) = .mk 5 false 0 ⟨#[]⟩ ns (nodesOf A) := by
     rw [HNSE.out, HA.out, hjl, List.take_length, HM.out.len, List.take_length]
     rfl
    have HDR := Lib.hid hdr
    obtain ⟨⟨an, cn, rfl⟩, ai, ci, rfl⟩ := HST.out.forms
    have q1 := six_of HFF.out.nod
    have q2 := six_of HFF.out.box
    have q3 := free_six HFF.out.box
    clear hdr hjl
    go_upto_region 15 with fail
    have HF15 := Lib.hid (HFF.out.setbox (.int .i64 5) (.bool false) (.int .i64 0) (.string ⟨#[]⟩) (.slice an ns.length cn) (.slice ai A.length ci))
    have HS15 := Lib.hid (HST.out.kept (grown_set6 wr w.heap.size (.int .i64 5) (.bool false) (.int .i64 0) (.string ⟨#[]⟩) (.slice an ns.length cn) (.slice ai A.length ci)) (fun r e => .inl (by have := Option.some.inj e; omega)))
    clear q1 q2 q3 HFF HST
    simp only [set6] at HF15 HS15
    generalize (((((wr.setCell ⟨w.heap.size, 0, none⟩ (.int .i64 5)).setCell ⟨w.heap.size, 1, none⟩ (.bool false)).setCell ⟨w.heap.size, 2, none⟩ (.int .i64 0)).setCell ⟨w.heap.size, 3, none⟩ (.string ⟨#[]⟩)).setCell ⟨w.heap.size, 4, none⟩ (.slice an ns.length cn)).setCell ⟨w.heap.size, 5, none⟩ (.slice ai A.length ci) = w15 at HF15 HS15 ⊢
    have hn15 := HS15.out.node
    rw [← HDR.out] at hn15
    have c15 := six_of HF15.out.box
    have V15 := Lib.hid (risvalid_any _ _ w15 hn15 (fun b q => q.2) (lowV_of_lowN (HLW.out _)) (HT.out.below HF15.out.bel).u)
    have HN15 := Lib.hid hn15
    clear hn15
    rcases HCD.out with ⟨-, -, -, f4, f5, f6⟩ | ⟨-, -, -, f4, f5, f6, f7, f8, f9⟩
    ·rw [f4] at V15
     have FE := Lib.hid f6
     clear HCD f4 f5 f6
     go_upto_region 16 with (go_at_call 27; (with_reducible refine (V15.out).mono ?_); rintro e w16 ⟨rfl, hb16⟩)
     have HF16 := Lib.hid (HF15.out.below hb16)
     have f6 := free_six HF16.out.res
     have c6 := six_of HF16.out.res
     clear V15 c15 hb16
     go_wp2
     refine ret_node3 (v := .string ⟨#[]⟩) (v2 := .int .i64 1) HF16.out.res Tryz.results12 rfl rfl rfl rfl ?_
     exact ft_none FE.out (by decide) rfl (HF16.out.end_ _ _ _ _ _ _)
    ·rw [f5.valid] at V15
     have FE := Lib.hid f9
     have HK0 := Lib.hid f5
     have HK1 := Lib.hid f7
     have HE0 := Lib.hid (f5.err f4.1 f4.2)
     have HE1 := Lib.hid (f7.err f4.1 f4.2)
     have HV1 := Lib.hid f6
     clear HCD f4 f5 f6 f7 f8 f9
     go_upto_region 17 with (go_at_call 27; (with_reducible refine (V15.out).mono ?_); rintro e w16 ⟨rfl, hb16⟩)
     have HF16 := Lib.hid (HF15.out.below hb16)
     have HN16 := Lib.hid (HN15.out.same (w' := w16) fun b q => hb16.block b q.2)
     have hs16 := hb16.size
     clear V15 c15 hb16
     have c16 := six_of HF16.out.box
     have E16 := Lib.hid (rencas_any k _ _ w16 HN16.out (fun b q => Nat.lt_of_lt_of_le q.2 hs16) HK0.out (lowV_of_lowN (HLW.out _)) (HT.out.below HF16.out.bel))
     rw [HE0.out] at E16
     go_upto_region 18 with (go_at_call 30; (with_reducible refine (E16.out).mono ?_); rintro e w17 ⟨rfl, hb17⟩)
     have HF17 := Lib.hid (HF16.out.below hb17)
     have hs17 := Nat.le_trans hs16 hb17.size
     have HN17 := Lib.hid (HN16.out.same (w' := w17) fun b q => hb17.block b (Nat.lt_of_lt_of_le q.2 hs16))
     clear E16 c16 hb17 hs16
     have cv := five_of (HF17.out.verg HGV.out)
     have fv := free_five (HF17.out.verg HGV.out)
     go_upto_region 21 with fail
     have HF20 := Lib.hid (HF17.out.setz HGV.out (vfZ x p k))
     have HN20 := Lib.hid (HN17.out.same (w' := w17.setCell ⟨gv, 4, none⟩ (.int .i64 (vfZ x p k))) fun b q => heap_setCell_other w17 ⟨gv, 4, none⟩ b _ (by intro e; have h1 := q.1; have h2 := HGV.out; have h3 : b = gv := e; omega))
     have hz20 : ((foS k (withV x (fitT p k 0))).size : Int) = vfZ x p k := rfl
     rw [hz20]
     have hs20 : w17.heap.size ≤ (w17.setCell ⟨gv, 4, none⟩ (.int .i64 (vfZ x p k))).heap.size := (grown_set w17 gv 4 _).size
     generalize w17.setCell ⟨gv, 4, none⟩ (.int .i64 (vfZ x p k)) = w20 at HF20 HN20 hs20 ⊢
     clear cv fv hz20
     have cv := five_of (HF20.out.verg HGV.out)
     have RT1 : Hid (Calls Tryz.prog 26 #[.agg #[.string p, .int .i64 1, .int .i64 0, .int .i64 k, .int .i64 (vfZ x p k)]] w20 fun e w' => e = .returned (.tuple #[.string (fitT p k (vfZ x p k)), .int .i64 (vtE ⟨p, 1, 0, k, vfZ x p k⟩)]) ∧ Below w20.heap.size w20 w') := Lib.hid (rvtext_any ⟨p, 1, 0, k, vfZ x p k⟩ w20)
     rw [show vtE ⟨p, 1, 0, k, vfZ x p k⟩ = 0 by unfold vtE; rw [HV1.out]; rfl] at RT1
     go_upto_region 22 with (go_at_call 26; (with_reducible refine (RT1.out).mono ?_); rintro e w21 ⟨rfl, hb21⟩)
     have HF21 := Lib.hid (HF20.out.below hb21)
     have hs21 := Nat.le_trans (Nat.le_trans hs17 hs20) hb21.size
     have HN21 := Lib.hid (HN20.out.same (w' := w21) fun b q => hb21.block b (Nat.lt_of_lt_of_le q.2 (Nat.le_trans hs17 hs20)))
     clear cv RT1 hb21 hs17 hs20 HN20 HF20 HN17 HF17
     have bd : Below w21.heap.size w21 w21.drew := (Below.refl _ _).drew
     have CB := Lib.hid (fun (wx : World) (hb : Below w21.heap.size w21 wx) => six_of (HF21.out.below hb).box)
     refine wp_region_plan (fun w' => w'.cell? ⟨w.heap.size, 0, none⟩ = some (.int .i64 5) ∧ w'.cell? ⟨w.heap.size, 1, none⟩ = some (.bool false) ∧ w'.cell? ⟨w.heap.size, 2, none⟩ = some (.int .i64 0) ∧ w'.cell? ⟨w.heap.size, 3, none⟩ = some (.string ⟨#[]⟩) ∧ w'.cell? ⟨w.heap.size, 4, none⟩ = some (.slice an ns.length cn) ∧ w'.cell? ⟨w.heap.size, 5, none⟩ = some (.slice ai A.length ci)) [0] (.take 0 (.take 1 (.ask 2 true (.ask 3 false (.take 4 (.take 5 (.take 6 (.ask 7 false .stop .stop)))) .stop) .stop))) (by kernel_rfl) (by kernel_rfl) (fun _ d _ _ _ h => by cases d <;> exact h) (CB.out _ bd) ?_
     have HFd := Lib.hid (HF21.out.below bd)
     have HNd := Lib.hid (HN21.out.same (w' := w21.drew) fun b q => bd.block b (Nat.lt_of_lt_of_le q.2 hs21))
     have hsd : w15.heap.size ≤ w21.drew.heap.size := Nat.le_trans hs21 bd.size
     generalize w21.drew = wd at bd HFd HNd hsd ⊢
     have NT1 := Lib.hid (rtext5_any (fitT p k (vfZ x p k)) wd)
     refine take_held _ ?_ rfl rfl (by decide) ?_ (fun K hK => ?_); rotate_left; (intro w0 hw0; go_simp; (try rfl)); (go_simp; refine hK _ ?_; clear hK K)
     refine take_any _ ?_ rfl rfl ?_ (fun K hK => ?_); rotate_left; (intro w0; go_simp; (try rfl)); (go_simp; refine hK _ ?_; clear hK K)
     refine ask_step _ rfl trivial ?_
     go_wp2_with (go_at_call 28; (with_reducible refine (NT1.out).mono ?_); rintro e w22 ⟨rfl, hb22⟩)
     have HF22 := Lib.hid (HFd.out.below hb22)
     refine Seg.mk ⟨CB.out _ (bd.trans (hb22.mono bd.size)), ?_⟩
     have hn22 := HNd.out.same (w' := w22) fun b q => hb22.block b (Nat.lt_of_lt_of_le q.2 hsd)
     have PU : Hid (Calls Tryz.prog 31 #[.agg #[.int .i64 5, .bool false, .int .i64 0, .string ⟨#[]⟩, .slice an ns.length cn, .slice ai A.length ci], .string ⟨#[118]⟩, .agg #[.int .i64 3, .bool false, .int .i64 0, .string (fitT p k (vfZ x p k)), .slice none 0 0, .slice none 0 0]] w22 (RpuPost (d + 1) w22 (fitN x p k))) := Lib.hid (rput_first _ (withV x (fitT p k 0)) ⟨#[118]⟩ (fitT p k (vfZ x p k)) w22 hn22 (fun b q => Nat.lt_of_lt_of_le q.2 (Nat.le_trans hsd hb22.size)) ((mapOk_iff rfl).1 HK0.out.valid) rfl hd (by rw [show (fitT p k (vfZ x p k)).size = 17 from (vt_ok HV1.out).2.1]; decide) HK1.out.valid (HT.out.below HF22.out.bel).u)
     clear NT1 hb22 bd HNd HFd hsd hn22
     refine ask_late _ rfl trivial ?_
     go_wp2_with (go_at_call 31; (with_reducible refine (PU.out).mono ?_); rintro e w23 ⟨vn', vi', rfl, hn23, hb23⟩; obtain ⟨a3, l3, c3, a4, l4, c4, e8⟩ := hn23.slices; simp only [List.cons.injEq, and_true] at e8; obtain ⟨-, -, -, -, rfl, rfl⟩ := e8)
     have HF23 := Lib.hid (HF22.out.below hb23)
     have hlo23 : w.heap.size + 3 ≤ w22.heap.size := by have := HF22.out.lo; have := lt_of_block HF22.out.nod; omega
     refine Seg.mk ?_
     refine take_any _ ?_ rfl rfl ?_ (fun K hK => ?_); rotate_left; (intro w0; go_simp; (try rfl)); (go_simp; refine hK _ ?_; clear hK K)
     refine take_any _ ?_ rfl rfl ?_ (fun K hK => ?_); rotate_left; (intro w0; go_simp; (try rfl)); (go_simp; refine hK _ ?_; clear hK K)
     refine take_any _ ?_ rfl rfl ?_ (fun K hK => ?_); rotate_left; (intro w0; go_simp; (try rfl)); (go_simp; refine hK _ ?_; clear hK K)
     have q2 := six_of HF23.out.box
     have q3 := free_six HF23.out.box
     have HF24 := Lib.hid (HF23.out.setbox (.int .i64 5) (.bool false) (.int .i64 0) (.string ⟨#[]⟩) (.slice a3 l3 c3) (.slice a4 l4 c4))
     have hg24 := grown_set6 w23 w.heap.size (.int .i64 5) (.bool false) (.int .i64 0) (.string ⟨#[]⟩) (.slice a3 l3 c3) (.slice a4 l4 c4)
     have HN24 := Lib.hid ((hn23.same fun b q => hg24.block b q.2 (by intro e; have := Option.some.inj e; have := q.1; omega)).mono fun b q => (show w.heap.size + 3 ≤ b ∧ b < (set6 w23 w.heap.size (.int .i64 5) (.bool false) (.int .i64 0) (.string ⟨#[]⟩) (.slice a3 l3 c3) (.slice a4 l4 c4)).heap.size from ⟨by have := q.1; omega, Nat.lt_of_lt_of_le q.2 hg24.size⟩))
     clear hg24 hn23 hb23 PU
     refine ask_last _ rfl trivial ?_
     go_upto_region 23 with fail
     simp only [set6] at HF24 HN24
     clear q2 q3
     generalize (((((w23.setCell ⟨w.heap.size, 0, none⟩ (.int .i64 5)).setCell ⟨w.heap.size, 1, none⟩ (.bool false)).setCell ⟨w.heap.size, 2, none⟩ (.int .i64 0)).setCell ⟨w.heap.size, 3, none⟩ (.string ⟨#[]⟩)).setCell ⟨w.heap.size, 4, none⟩ (.slice a3 l3 c3)).setCell ⟨w.heap.size, 5, none⟩ (.slice a4 l4 c4) = w24 at HF24 HN24 ⊢
     have c24 := six_of HF24.out.box
     have E24 := Lib.hid (rencas_any k _ _ w24 HN24.out (fun b q => q.2) HK1.out (lowV_of_lowN (HLW.out _)) (HT.out.below HF24.out.bel))
     rw [show foE k (fitN x p k) = 0 from HE1.out] at E24
     go_upto_region 24 with (go_at_call 30; (with_reducible refine (E24.out).mono ?_); rintro e w25 ⟨rfl, hb25⟩)
     have HF25 := Lib.hid (HF24.out.below hb25)
     have HN25 := Lib.hid (HN24.out.same (w' := w25) fun b q => hb25.block b q.2)
     have hs25 := hb25.size
     have c25 := six_of HF25.out.box
     have f6 := free_six HF25.out.res
     have c6 := six_of HF25.out.res
     clear c24 E24 hb25
     go_wp2
     refine ret_node3 (v := .string (foS k (fitN x p k))) (v2 := .int .i64 0) HF25.out.res Tryz.results12 rfl rfl rfl rfl ?_
     have hg := grown_set6 w25 (w.heap.size + 1) (.int .i64 5) (.bool false) (.int .i64 0) (.string ⟨#[]⟩) (.slice a3 l3 c3) (.slice a4 l4 c4)
     refine ⟨[.int .i64 5, .bool false, .int .i64 0, .string ⟨#[]⟩, .slice a3 l3 c3, .slice a4 l4 c4], ?_, ?_, HF25.out.end_ _ _ _ _ _ _⟩
     ·unfold fitS
      rw [FE.out, if_pos rfl]
     ·have e1 : fitX x p k = fitN x p k := by unfold fitX; rw [FE.out, if_pos rfl]
      rw [e1]
      exact (HN25.out.same fun b q => hg.block b (Nat.lt_of_lt_of_le q.2 hs25) (by intro e; have := Option.some.inj e; have := q.1; omega)).mono fun b q => Nat.lt_of_lt_of_le (Nat.lt_of_lt_of_le q.2 hs25) hg.size
end Go.Proofs.YtmlmdidaldcoiaaGreatDoor
