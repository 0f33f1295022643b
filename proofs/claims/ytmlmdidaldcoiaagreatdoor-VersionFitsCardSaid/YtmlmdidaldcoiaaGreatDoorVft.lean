/- The program's Fit. -/
import Derived.Test.YtmlmdidaldcoiaaGreatDoorVwi
namespace Go.Proofs.YtmlmdidaldcoiaaGreatDoor
open Go Go.ChangeShapes Go.WideShapes Go.ChangeAt Go.RowKit
set_option linter.unusedVariables false
set_option linter.unusedSimpArgs false

/-- What Fit hands back. -/
def FtPost (d : Nat) (x : ND) (p : ByteArray) (k : Int) (w : World) (e : Ending) (w' : World) : Prop := ∃ cs : List Value, e = .returned (.tuple #[.agg cs.toArray, .string (fitS x p k), .int .i64 (fitE x p k)]) ∧ NodeIn d (fun b => b < w'.heap.size) w' cs (fitX x p k) ∧ Below w.heap.size w w'
theorem ft_none {d : Nat} {x : ND} {p : ByteArray} {k er : Int} {w w' : World} {e : Ending} (he : fitE x p k = er) (h0 : er ≠ 0) (h : e = .returned (.tuple #[.agg #[.int .i64 0, .bool false, .int .i64 0, .string ⟨#[]⟩, .slice none 0 0, .slice none 0 0], .string ⟨#[]⟩, .int .i64 er])) (hb : Below w.heap.size w w') : FtPost (d + 1) x p k w e w' := by
 have e1 : fitX x p k = nd0 := by unfold fitX; rw [he, if_neg h0]
 have e2 : fitS x p k = ⟨#[]⟩ := by unfold fitS; rw [he, if_neg h0]
 rw [FtPost, e1, e2, he]
 exact ⟨[.int .i64 0, .bool false, .int .i64 0, .string ⟨#[]⟩, .slice none 0 0, .slice none 0 0], h, (node_leaf (fun b => b < w'.heap.size) w' 0 false 0 ⟨#[]⟩ (by decide)).deeper (show 1 ≤ d + 1 by omega), hb⟩
/-- A fit under way: the argument's block, the result's, the version's. -/
structure FtW (w : World) (cx : Array Value) (gv : Nat) (V : VD) (wr : World) : Prop where
 box : wr.heap[w.heap.size]? = some (.cells cx 30 (0, 0))
 res : wr.heap[w.heap.size + 1]? = some (.cells #[.int .i64 0, .bool false, .int .i64 0, .string ⟨#[]⟩, .slice none 0 0, .slice none 0 0] 30 (0, 0))
 ver : wr.heap[gv]? = some (.cells #[.string V.p, .int .i64 V.a, .int .i64 V.b, .int .i64 V.f, .int .i64 V.z] 39 (0, 0))
 lo : w.heap.size + 2 ≤ gv
 bel : Below w.heap.size w wr
theorem FtW.step {w wr wn : World} {cx : Array Value} {gv : Nat} {V : VD} (h : FtW w cx gv V wr) (hb : Below wr.heap.size wr wn) : FtW w cx gv V wn :=
 ⟨(hb.block _ (lt_of_block h.box)).trans h.box, (hb.block _ (lt_of_block h.res)).trans h.res, (hb.block _ (lt_of_block h.ver)).trans h.ver, h.lo, h.bel.trans (hb.mono h.bel.size)⟩
theorem FtW.size {w wr : World} {cx : Array Value} {gv : Nat} {V : VD} (h : FtW w cx gv V wr) (z : Int) : FtW w cx gv { V with z := z } (wr.setCell ⟨gv, 4, none⟩ (.int .i64 z)) := by
 have hlo := h.lo
 have hb := h.bel
 have hne : ∀ i, i ≠ gv → (wr.setCell ⟨gv, 4, none⟩ (.int .i64 z)).heap[i]? = wr.heap[i]? := fun i hi => heap_setCell_other wr ⟨gv, 4, none⟩ i _ hi
 exact ⟨(hne _ (by omega)).trans h.box, (hne _ (by omega)).trans h.res, heap_set h.ver _, hlo, hb.grown (grown_set wr gv 4 _) hb.size (fun g e => by have := Option.some.inj (show some gv = some g from e); omega)⟩
theorem FtW.end_ {w wr : World} {cx : Array Value} {gv : Nat} {V : VD} (h : FtW w cx gv V wr) (a b c d e f : Value) : Below w.heap.size w (set6 wr (w.heap.size + 1) a b c d e f) :=
 h.bel.grown (grown_set6 wr _ a b c d e f) h.bel.size (fun g e => by have := Option.some.inj (show some (w.heap.size + 1) = some g from e); omega)
theorem ret_node3 {f : Func} {Q : Ending → World → Prop} {a : Act} {w : World} {g c s s2 : Nat} {x0 x1 x2 x3 x4 x5 v v2 y0 y1 y2 y3 y4 y5 : Value} (h : w.heap[g]? = some (.cells #[y0, y1, y2, y3, y4, y5] 30 (0, 0))) (hres : f.results = #[.cell c 30, .tmp s, .tmp s2]) (hc : a.tmps.getD c undef = .pointer (some ⟨g, 0, none⟩)) (hs : a.tmps.getD s undef = v) (hs2 : a.tmps.getD s2 undef = v2) (hd : a.defers = [])
  (hQ : Q (.returned (.tuple #[.agg #[x0, x1, x2, x3, x4, x5], v, v2])) (set6 w g x0 x1 x2 x3 x4 x5)) : bodyPost Tryz.prog f Q .ret a (set6 w g x0 x1 x2 x3 x4 x5) := by
 refine bodyPost_ret (v := .tuple #[.agg #[x0, x1, x2, x3, x4, x5], v, v2]) ?_ hd hQ
 obtain ⟨q0, q1, q2, q3, q4, q5⟩ := six_of (six_put h x0 x1 x2 x3 x4 x5)
 obtain ⟨tm, df⟩ := a
 simp only [Array.getD_eq_getD_getElem?] at hc hs hs2
 simp [results, hres, go_sem, hc, hs, hs2, q0, q1, q2, q3, q4, q5]
theorem map_slices {d : Nat} {S : Nat → Prop} {w : World} {cs : List Value} {ns : List ByteArray} {its : List ND} (h : NodeIn d S w cs (.mk 5 false 0 ⟨#[]⟩ ns its)) : ∃ a1 l1 c1 a2 l2 c2, cs = [.int .i64 5, .bool false, .int .i64 0, .string ⟨#[]⟩, .slice a1 l1 c1, .slice a2 l2 c2] := h.slices
theorem low_text {d : Nat} (t : ByteArray) : lowN d (tN t) := by
 cases d with
 | zero => trivial
 | succ d => exact ⟨by simp [tN, ND.names], by simp [tN, ND.items], fun y hy => by simp [tN, ND.items] at hy⟩
theorem low_with {d : Nat} {x : ND} (t : ByteArray) (h : lowN (d + 1) x) (hs : x.items.length ≤ 999999) : lowN (d + 1) (withV x t) := by
 have hk := keep_length x.names x.items
 refine ⟨by rw [(keep_fst x t).1]; omega, by rw [(keep_fst x t).2]; omega, fun y hy => ?_⟩
 rcases List.mem_cons.1 (show y ∈ tN t :: (keepL x.names x.items).map (·.2) from hy) with rfl | hy
 ·exact low_text t
 ·obtain ⟨q, hq, rfl⟩ := List.mem_map.1 hy
  exact h.2.2 _ (keep_mem hq).2.1
set_option maxHeartbeats 3200000 in
set_option maxRecDepth 100000 in
theorem vfit_any {d : Nat} {S : Nat → Prop} (cs : List Value) (x : ND) (p : ByteArray) (k : Int) (hk : wI k) (w : World) (h : NodeIn (d + 1) S w cs x) (hS : ∀ b, S b → b < w.heap.size) (hlow : lowN (d + 1) x) (hd : 1 ≤ d) (hF : validN 8 x = true → x.kind = 5 → FitOk x) (hT : Ftab w) (hD : DB w) :
  Calls Tryz.prog 11 #[.agg cs.toArray, .string p, .int .i64 k] w (FtPost (d + 1) x p k w) := by
 obtain ⟨a1, l1, c1, a2, l2, c2, rfl⟩ := h.slices
 obtain ⟨w1, hw1⟩ : ∃ W, W = (w.alloc (.cells #[.int .i64 x.kind, .bool x.bool, .int .i64 x.num, .string x.text, .slice a1 l1 c1, .slice a2 l2 c2] 30)).alloc (.cells #[.int .i64 0, .bool false, .int .i64 0, .string ⟨#[]⟩, .slice none 0 0, .slice none 0 0] 30) := ⟨_, rfl⟩
 have z1 : (w.alloc (.cells #[.int .i64 x.kind, .bool x.bool, .int .i64 x.num, .string x.text, .slice a1 l1 c1, .slice a2 l2 c2] 30)).heap.size = w.heap.size + 1 := by simp
 have b1 : Below w.heap.size w w1 := by rw [hw1]; exact ((Below.refl _ _).alloc (Nat.le_refl _) _).alloc (by simp) _
 have k0 : w1.heap[w.heap.size]? = some (.cells #[.int .i64 x.kind, .bool x.bool, .int .i64 x.num, .string x.text, .slice a1 l1 c1, .slice a2 l2 c2] 30 (0, 0)) := by rw [hw1]; exact (Below.heap_alloc _ _ _ (by omega)).trans (heap_alloc_new _ _)
 have k1 : w1.heap[w.heap.size + 1]? = some (.cells #[.int .i64 0, .bool false, .int .i64 0, .string ⟨#[]⟩, .slice none 0 0, .slice none 0 0] 30 (0, 0)) := by rw [hw1, ← z1]; exact heap_alloc_new _ _
 have z3 : w1.heap.size = w.heap.size + 2 := by rw [hw1]; simp
 have HK := Lib.hid hk
 have HN := Lib.hid h
 have HS := Lib.hid hS
 have HL := Lib.hid hlow
 have HT := Lib.hid hT
 have HD := Lib.hid hD
 have hV0 : WideV ⟨p, 1, 0, k, 0⟩ := ⟨show wI 1 from by unfold wI; omega, show wI 0 from by unfold wI; omega, hk, show wI 0 from by unfold wI; omega⟩
 have HV0 := Lib.hid hV0
 have FC := Lib.hid (fit_cases x p k hF)
 have Z3 := Lib.hid z3
 clear h hS hlow hT hD hF z1 hV0 z3
 go_enter Tryz.func11, Tryz.ntmps11
 go_upto_region 1 with fail
 rw [← hw1]
 clear hw1
 go_upto_region 2 with fail
 have b2 := (Below.refl w1.heap.size w1).alloc (o := .cells #[.string p, .int .i64 1, .int .i64 0, .int .i64 k, .int .i64 0] 39) (Nat.le_refl _)
 have hW : FtW w #[.int .i64 x.kind, .bool x.bool, .int .i64 x.num, .string x.text, .slice a1 l1 c1, .slice a2 l2 c2] w1.heap.size ⟨p, 1, 0, k, 0⟩ (w1.alloc (.cells #[.string p, .int .i64 1, .int .i64 0, .int .i64 k, .int .i64 0] 39)) :=
  ⟨(b2.block _ (lt_of_block k0)).trans k0, (b2.block _ (lt_of_block k1)).trans k1, heap_alloc_new w1 _, Nat.le_of_eq Z3.out.symm, b1.trans (b2.mono b1.size)⟩
 generalize w1.alloc _ = w2 at hW ⊢
 generalize w1.heap.size = gv at hW ⊢
 have HW2 := Lib.hid hW
 have c5 := five_of hW.ver
 have VV : Hid (Calls Tryz.prog 21 #[.agg #[.string p, .int .i64 1, .int .i64 0, .int .i64 k, .int .i64 0]] w2 fun e w' => e = .returned (.bool (validV ⟨p, 1, 0, k, 0⟩)) ∧ Below w2.heap.size w2 w') := Lib.hid (vvalid_any ⟨p, 1, 0, k, 0⟩ w2 HV0.out)
 clear hW b1 b2 k0 k1 hk
 rcases FC.out with ⟨f1, f2⟩ | ⟨f1, f2, f3⟩ | ⟨f1, f2, f3, f4, f5, f6⟩ | ⟨f1, f2, f3, f4, f5, f6, f7, f8, f9⟩
 ·rw [f1] at VV
  have FE := Lib.hid f2
  clear FC f1 f2
  go_upto_region 3 with (go_at_call 21; (with_reducible refine (VV.out).mono ?_); rintro e w3 ⟨rfl, hb3⟩)
  have HW3 := Lib.hid (HW2.out.step hb3)
  have f6 := free_six HW3.out.res
  have c6 := six_of HW3.out.res
  clear c5 VV hb3
  go_wp2
  refine ret_node3 (v := .string ⟨#[]⟩) (v2 := .int .i64 2) HW3.out.res Tryz.results11 rfl rfl rfl rfl ?_
  exact ft_none FE.out (by decide) rfl (HW3.out.end_ _ _ _ _ _ _)
 ·rw [f1] at VV
  have FE := Lib.hid f3
  by_cases h5 : x.kind = 5
  ·have hnv : validN 8 x = false := by
    cases e : validN 8 x with
    | false => rfl
    | true => exact absurd ⟨h5, e⟩ f2
   have IV := Lib.hid (fun (wx : World) (hb : Below w.heap.size w wx) => isvalid_any _ x wx (HN.out.same fun b q => hb.block b (HS.out b q)) (fun b q => Nat.lt_of_lt_of_le (HS.out b q) hb.size) HL.out (HT.out.below hb).u)
   rw [hnv] at IV
   rw [h5] at IV HW2
   rw [h5]
   clear FC f1 f2 f3 h5 hnv
   go_upto_region 4 with (go_at_call 21; (with_reducible refine (VV.out).mono ?_); rintro e w3 ⟨rfl, hb3⟩)
   have HW3 := Lib.hid (HW2.out.step hb3)
   have cb := six_of HW3.out.box
   clear c5 VV hb3
   go_upto_region 5 with (go_at_call 22; (with_reducible refine (IV.out _ HW3.out.bel).mono ?_); rintro e w4 ⟨rfl, hb4⟩)
   have HW4 := Lib.hid (HW3.out.step hb4)
   have f6 := free_six HW4.out.res
   have c6 := six_of HW4.out.res
   clear cb IV hb4
   go_wp2
   refine ret_node3 (v := .string ⟨#[]⟩) (v2 := .int .i64 1) HW4.out.res Tryz.results11 rfl rfl rfl rfl ?_
   exact ft_none FE.out (by decide) rfl (HW4.out.end_ _ _ _ _ _ _)
  ·clear FC f1 f2 f3
   go_upto_region 4 with (go_at_call 21; (with_reducible refine (VV.out).mono ?_); rintro e w3 ⟨rfl, hb3⟩)
   have HW3 := Lib.hid (HW2.out.step hb3)
   have cb := six_of HW3.out.box
   have f6 := free_six HW3.out.res
   have c6 := six_of HW3.out.res
   clear c5 VV hb3
   go_wp2
   refine ret_node3 (v := .string ⟨#[]⟩) (v2 := .int .i64 1) HW3.out.res Tryz.results11 rfl rfl rfl rfl ?_
   exact ft_none FE.out (by decide) rfl (HW3.out.end_ _ _ _ _ _ _)
 all_goals
  have hval : validV ⟨p, 1, 0, k, 0⟩ = true := f1
  have h5 : x.kind = 5 := f2
  have hnv : validN 8 x = true := f3
  have hm : MapOk 7 x := (mapOk_iff h5).1 hnv
  rw [f1] at VV
  have IV := Lib.hid (fun (wx : World) (hb : Below w.heap.size w wx) => isvalid_any _ x wx (HN.out.same fun b q => hb.block b (HS.out b q)) (fun b q => Nat.lt_of_lt_of_le (HS.out b q) hb.size) HL.out (HT.out.below hb).u)
  rw [hnv] at IV
  have WV := Lib.hid (fun (V : VD) (hv : validV V = true) (hw : WideV V) (wx : World) (hb : Below w.heap.size w wx) => withv_any _ x V wx (HN.out.same fun b q => hb.block b (HS.out b q)) (fun b q => Nat.lt_of_lt_of_le (HS.out b q) hb.size) HL.out hm.len hd hw (by rw [(vt_ok hv).2.1]; decide) (HD.out.below hb))
  rw [h5] at IV HW2 WV
  rw [h5]
  have HVAL := Lib.hid hval
  have HM := Lib.hid hm
  have hlw : ∀ t, lowN (d + 1) (withV x t) := fun t => low_with t HL.out (by have := hm.most; omega)
  have HLW := Lib.hid hlw
  clear FC f1 f2 f3 h5 hnv hval hm hlw
  go_upto_region 4 with (go_at_call 21; (with_reducible refine (VV.out).mono ?_); rintro e w3 ⟨rfl, hb3⟩)
  have HW3 := Lib.hid (HW2.out.step hb3)
  have cb := six_of HW3.out.box
  clear c5 VV hb3
  go_upto_region 6 with (go_at_call 22; (with_reducible refine (IV.out _ HW3.out.bel).mono ?_); rintro e w4 ⟨rfl, hb4⟩)
  have HW4 := Lib.hid (HW3.out.step hb4)
  have cb4 := six_of HW4.out.box
  have cv4 := five_of HW4.out.ver
  clear cb IV hb4
  have WV0 : Hid (Calls Tryz.prog 24 #[.agg #[.int .i64 5, .bool x.bool, .int .i64 x.num, .string x.text, .slice a1 l1 c1, .slice a2 l2 c2], .agg #[.string p, .int .i64 1, .int .i64 0, .int .i64 k, .int .i64 0]] w4 (WvPost (d + 1) w4 (withV x (fitT p k 0)))) := Lib.hid (WV.out ⟨p, 1, 0, k, 0⟩ HVAL.out HV0.out w4 HW4.out.bel)
 ·have FE := Lib.hid f6
  have FO := Lib.hid f5
  have EN := Lib.hid (fun (wx : World) (vn vi : Value) (hn : NodeIn (d + 1) (fun b => b < wx.heap.size) wx [.int .i64 5, .bool false, .int .i64 0, .string ⟨#[]⟩, vn, vi] (withV x (fitT p k 0))) (hb : Below w.heap.size w wx) => encas_any k _ _ wx hn (fun b q => q) (lowV_of_lowN (HLW.out _)) (fun hv => by rw [f4] at hv; cases hv) (HT.out.below hb))
  rw [f5] at EN
  clear f4 f5 f6
  go_upto_region 7 with (first
   | (go_at_call 24; (with_reducible refine (WV0.out).mono ?_); rintro e w5 ⟨vn, vi, rfl, hn5, hb5⟩)
   | (go_at_call 23; (with_reducible refine (EN.out w5 vn vi hn5 (HW4.out.step hb5).bel).mono ?_); rintro e w6 ⟨rfl, hb6⟩))
  have HW6 := Lib.hid ((HW4.out.step hb5).step hb6)
  have f6 := free_six HW6.out.res
  have c6 := six_of HW6.out.res
  clear cb4 cv4 WV0 EN hn5 hb5 hb6
  go_wp2
  refine ret_node3 (v := .string ⟨#[]⟩) (v2 := .int .i64 1) HW6.out.res Tryz.results11 rfl rfl rfl rfl ?_
  exact ft_none FE.out (by decide) rfl (HW6.out.end_ _ _ _ _ _ _)
 ·have FE := Lib.hid f9
  have HK1 := Lib.hid f7
  have hf0 := f5.err f4.1 f4.2
  have EN := Lib.hid (fun (wx : World) (vn vi : Value) (hn : NodeIn (d + 1) (fun b => b < wx.heap.size) wx [.int .i64 5, .bool false, .int .i64 0, .string ⟨#[]⟩, vn, vi] (withV x (fitT p k 0))) (hb : Below w.heap.size w wx) => encas_any k _ _ wx hn (fun b q => q) (lowV_of_lowN (HLW.out _)) (fun hv => f5.nums) (HT.out.below hb))
  rw [hf0] at EN
  have hf1 := f7.err f4.1 f4.2
  have HF1 := Lib.hid hf1
  have HV1 := Lib.hid f6
  clear f4 f5 f6 f7 f8 f9 hf0 hf1
  go_upto_region 7 with (first
   | (go_at_call 24; (with_reducible refine (WV0.out).mono ?_); rintro e w5 ⟨vn, vi, rfl, hn5, hb5⟩)
   | (go_at_call 23; (with_reducible refine (EN.out w5 vn vi hn5 (HW4.out.step hb5).bel).mono ?_); rintro e w6 ⟨rfl, hb6⟩))
  have HW6 := Lib.hid ((HW4.out.step hb5).step hb6)
  clear cb4 cv4 WV0 EN hn5 hb5 hb6
  have cv6 := five_of HW6.out.ver
  have fv6 := free_five HW6.out.ver
  go_upto_region 10 with fail
  have HW7 := Lib.hid (HW6.out.size (vfZ x p k))
  clear cv6 fv6 HW6
  have hz7 : ((foS k (withV x (fitT p k 0))).size : Int) = vfZ x p k := rfl
  rw [hz7]
  generalize w6.setCell ⟨gv, 4, none⟩ (.int .i64 (vfZ x p k)) = w7 at HW7 ⊢
  clear hz7
  have cb7 := six_of HW7.out.box
  have cv7 := five_of HW7.out.ver
  have WV1 : Hid (Calls Tryz.prog 24 #[.agg #[.int .i64 5, .bool x.bool, .int .i64 x.num, .string x.text, .slice a1 l1 c1, .slice a2 l2 c2], .agg #[.string p, .int .i64 1, .int .i64 0, .int .i64 k, .int .i64 (vfZ x p k)]] w7 (WvPost (d + 1) w7 (fitN x p k))) := Lib.hid (WV.out ⟨p, 1, 0, k, vfZ x p k⟩ HV1.out ⟨show wI 1 from by unfold wI; omega, show wI 0 from by unfold wI; omega, HK.out, show wI (vfZ x p k) from by have := (validV_parts HV1.out).2.2.2.2; simp only at this; unfold wI; omega⟩ w7 HW7.out.bel)
  go_upto_region 11 with (go_at_call 24; (with_reducible refine (WV1.out).mono ?_); rintro e w8 ⟨vn', vi', rfl, hn8, hb8⟩; obtain ⟨a3, l3, c3, a4, l4, c4, e8⟩ := hn8.slices; simp only [List.cons.injEq, and_true] at e8; obtain ⟨-, -, -, -, rfl, rfl⟩ := e8)
  have b9 := (Below.refl w8.heap.size w8).alloc (o := .cells #[.int .i64 5, .bool false, .int .i64 0, .string ⟨#[]⟩, .slice a3 l3 c3, .slice a4 l4 c4] 30) (Nat.le_refl _)
  have k9 := heap_alloc_new w8 (.cells #[.int .i64 5, .bool false, .int .i64 0, .string ⟨#[]⟩, .slice a3 l3 c3, .slice a4 l4 c4] 30)
  have hn9 := hn8.same (w' := w8.alloc (.cells #[.int .i64 5, .bool false, .int .i64 0, .string ⟨#[]⟩, .slice a3 l3 c3, .slice a4 l4 c4] 30)) fun b q => b9.block b q
  have HW9 := Lib.hid ((HW7.out.step hb8).step b9)
  have hsz9 := b9.size
  generalize w8.alloc _ = w9 at b9 k9 hn9 HW9 hsz9 ⊢
  generalize w8.heap.size = g9 at *
  have c9 := six_of k9
  obtain ⟨_, _, e9, -, hns9, his9⟩ := hn9
  simp only [List.cons.injEq, and_true, true_and] at e9
  obtain ⟨-, -, -, -, rfl, rfl⟩ := e9
  have NM := Lib.hid (nmap_any d (fun b => b < w9.heap.size) _ _ _ _ w9 (his9.mono (fun b q => Nat.lt_of_lt_of_le q hsz9) fun cs y q => q.mono fun b q => Nat.lt_of_lt_of_le q hsz9) (hns9.mono fun b q => Nat.lt_of_lt_of_le q hsz9) (fun b q => q) (HLW.out _).2.1 (HLW.out _).1 (HLW.out _).2.2)
  clear cb7 cv7 WV1 hn8 hb8 b9 hns9 his9 hsz9 k9
  go_upto_region 12 with (go_at_call 25; (with_reducible refine (NM.out).mono ?_); rintro e w10 ⟨cf, rfl, hn10, hb10⟩; obtain ⟨a5, l5, c5, a6, l6, c6, rfl⟩ := map_slices hn10)
  have b11 := (Below.refl w10.heap.size w10).alloc (o := .cells #[.int .i64 5, .bool false, .int .i64 0, .string ⟨#[]⟩, .slice a5 l5 c5, .slice a6 l6 c6] 30) (Nat.le_refl _)
  have k11 := heap_alloc_new w10 (.cells #[.int .i64 5, .bool false, .int .i64 0, .string ⟨#[]⟩, .slice a5 l5 c5, .slice a6 l6 c6] 30)
  have HW11 := Lib.hid ((HW9.out.step hb10).step b11)
  have hn11 : NodeIn (d + 1) (fun b => Fr w9.heap.size w10 b) (w10.alloc (.cells #[.int .i64 5, .bool false, .int .i64 0, .string ⟨#[]⟩, .slice a5 l5 c5, .slice a6 l6 c6] 30)) [.int .i64 5, .bool false, .int .i64 0, .string ⟨#[]⟩, .slice a5 l5 c5, .slice a6 l6 c6] (fitN x p k) := hn10.same fun b q => b11.block b q.2.1
  have hz11 : w.heap.size + 2 ≤ w9.heap.size := by have := HW9.out.lo; have := lt_of_block HW9.out.ver; omega
  have hs11 := b11.size
  have hn11 : NodeIn (d + 1) (fun b => w.heap.size + 2 ≤ b ∧ b < (w10.alloc (.cells #[.int .i64 5, .bool false, .int .i64 0, .string ⟨#[]⟩, .slice a5 l5 c5, .slice a6 l6 c6] 30)).heap.size) (w10.alloc (.cells #[.int .i64 5, .bool false, .int .i64 0, .string ⟨#[]⟩, .slice a5 l5 c5, .slice a6 l6 c6] 30)) [.int .i64 5, .bool false, .int .i64 0, .string ⟨#[]⟩, .slice a5 l5 c5, .slice a6 l6 c6] (fitN x p k) := hn11.mono fun b q => ⟨Nat.le_trans hz11 q.1, Nat.lt_of_lt_of_le q.2.1 hs11⟩
  generalize w10.alloc _ = w11 at k11 HW11 hn11 hs11 ⊢
  generalize w10.heap.size = g11 at *
  have c11 := six_of k11
  have K11 := Lib.hid k11
  have HN11 := Lib.hid hn11
  have EF := Lib.hid (encas_any k _ _ w11 hn11 (fun b q => q.2) (lowV_of_lowN (HLW.out _)) (fun hv => HK1.out.nums) (HT.out.below HW11.out.bel))
  rw [show foE k (fitN x p k) = 0 from HF1.out] at EF
  clear c9 NM hn10 hb10 b11 k11 hn11 hz11 hs11
  go_upto_region 13 with (go_at_call 23; (with_reducible refine (EF.out).mono ?_); rintro e w12 ⟨rfl, hb12⟩)
  have HW12 := Lib.hid (HW11.out.step hb12)
  have c12 := six_of ((hb12.block _ (lt_of_block K11.out)).trans K11.out)
  have HN12 := Lib.hid (HN11.out.same (w' := w12) fun b q => hb12.block b q.2)
  have hs12 := hb12.size
  have f6 := free_six HW12.out.res
  have c6' := six_of HW12.out.res
  clear c11 EF hb12
  go_wp2
  refine ret_node3 (v := .string (foS k (fitN x p k))) (v2 := .int .i64 0) HW12.out.res Tryz.results11 rfl rfl rfl rfl ?_
  have hg := grown_set6 w12 (w.heap.size + 1) (.int .i64 5) (.bool false) (.int .i64 0) (.string ⟨#[]⟩) (.slice a5 l5 c5) (.slice a6 l6 c6)
  refine ⟨[.int .i64 5, .bool false, .int .i64 0, .string ⟨#[]⟩, .slice a5 l5 c5, .slice a6 l6 c6], ?_, ?_, HW12.out.end_ _ _ _ _ _ _⟩
  ·unfold fitS
   rw [FE.out, if_pos rfl]
  ·have e1 : fitX x p k = fitN x p k := by unfold fitX; rw [FE.out, if_pos rfl]
   rw [e1]
   exact (HN12.out.same fun b q => hg.block b (Nat.lt_of_lt_of_le q.2 hs12) (by intro e; have := Option.some.inj e; omega)).mono fun b q => Nat.lt_of_lt_of_le (Nat.lt_of_lt_of_le q.2 hs12) hg.size
end Go.Proofs.YtmlmdidaldcoiaaGreatDoor
