/- The kit's Map: some map that is valid. -/
import Derived.Test.YtmlmdidaldcoiaaGreatDoorNnam
import Derived.Test.YtmlmdidaldcoiaaGreatDoorPlan
import Derived.Deep.AppendLies
namespace Go.Proofs.YtmlmdidaldcoiaaGreatDoor
open Go.ChangeShapes Go.WideShapes Go.ChangeAt Go.RowKit
set_option linter.unusedVariables false
set_option linter.unusedSimpArgs false

def mNames : List ByteArray := [⟨#[97]⟩, ⟨#[98]⟩, ⟨#[118]⟩, ⟨#[100]⟩]
theorem mNames_size : ∀ s, s ∈ mNames → s.size ≤ maxLen - 2 := by decide +kernel
theorem mNames_one : ∀ s, s ∈ mNames → s.size ≤ 1 := by decide +kernel
theorem mNames_ok : ∀ s, s ∈ mNames → textOk s = true := by decide +kernel
theorem mNames_nodup : mNames.Nodup := by decide +kernel
theorem infon : ∃ i, Tryz.prog.info? 30 = some i ∧ i.zero = some (.agg #[.int .i64 0, .bool false, .int .i64 0, .string ⟨#[]⟩, .slice none 0 0, .slice none 0 0]) ∧ i.size = 6 ∧ i.bytes = 88 :=
 info_parts (show (Tryz.prog.info? 30).map (fun i => (i.zero, i.size, i.bytes)) = some (some (.agg #[.int .i64 0, .bool false, .int .i64 0, .string ⟨#[]⟩, .slice none 0 0, .slice none 0 0]), 6, 88) by kernel_rfl)
theorem infos : ∃ i, Tryz.prog.info? 9 = some i ∧ i.zero = some (.string ⟨#[]⟩) ∧ i.size = 1 ∧ i.bytes = 16 :=
 info_parts (show (Tryz.prog.info? 9).map (fun i => (i.zero, i.size, i.bytes)) = some (some (.string ⟨#[]⟩), 1, 16) by kernel_rfl)
set_option maxHeartbeats 1600000 in
set_option maxRecDepth 100000 in
theorem kmap_any (B g n : Nat) (w : World) (hn : 2 ≤ n) (hn2 : n < 100) (hd : DiceAt B w g)
  (KN : ∀ wx : World, DiceAt B wx g → Calls Tryz.prog 9 #[.pointer (some ⟨g, 0, none⟩), .int .i64 ((n : Int) - 1)] wx fun e w' => SomeNode (n - 1) wx e w' ∧ wx.grownBy w' (some g) ∧ DiceAt B w' g) :
  Calls Tryz.prog 8 #[.pointer (some ⟨g, 0, none⟩), .int .i64 n] w fun e w' =>
   SomeMapK n w e w' ∧ w.grownBy w' (some g) ∧ DiceAt B w' g := by
 have N4 := Lib.hid (fun (wx : World) (hx : DiceAt B wx g) => next_lit B g 4 4 rfl wx (by decide) (by decide) hx)
 have HKN := Lib.hid KN
 have hgw := hd.lt
 obtain ⟨z1, hz1⟩ : ∃ o, o = Obj.cells #[.int .i64 0, .bool false, .int .i64 0, .string ⟨#[]⟩, .slice none 0 0, .slice none 0 0] 30 (0, 0) := ⟨_, rfl⟩
 obtain ⟨z2, hz2⟩ : ∃ o, o = Obj.cells #[.int .i64 5, .bool false, .int .i64 0, .string ⟨#[]⟩, .slice none 0 0, .slice none 0 0] 30 (0, 0) := ⟨_, rfl⟩
 have hst0 : NSt 30 9 (n - 1) w ((w.alloc z1).alloc z2) g (w.heap.size + 1) ((w.alloc z1).alloc z2).heap.size 5 (.slice none 0 0) (.slice none 0 0) [] [] := by
  have e1 : (w.alloc z1).heap.size = w.heap.size + 1 := by simp
  have h2 := heap_alloc_new (w.alloc z1) z2
  rw [e1] at h2
  refine NSt.begin ?_ (h2.trans (by rw [hz2])) hgw (by omega) (gtrans (galloc w z1 _) (galloc _ z2 _))
  rw [← hz1]
  exact (Below.heap_alloc (w.alloc z1) z2 w.heap.size (by omega)).trans (heap_alloc_new w z1)
 have hd0 : DiceAt B ((w.alloc z1).alloc z2) g := (hd.go ((Below.refl w.heap.size w).alloc (Nat.le_refl _) z1)).go ((Below.refl _ _).alloc (Nat.le_refl _) z2)
 subst hz1
 subst hz2
 clear KN hd
 go_enter Tryz.func8, Tryz.ntmps8
 go_upto_region 2 with fail
 obtain ⟨W1, hW1⟩ : ∃ W, W = (w.alloc (.cells #[.int .i64 0, .bool false, .int .i64 0, .string ⟨#[]⟩, .slice none 0 0, .slice none 0 0] 30)).alloc (.cells #[.int .i64 5, .bool false, .int .i64 0, .string ⟨#[]⟩, .slice none 0 0, .slice none 0 0] 30) := ⟨_, rfl⟩
 rw [← hW1] at hst0 hd0
 rw [← hW1]
 obtain ⟨C, hC⟩ : ∃ C, C = W1.heap.size := ⟨_, rfl⟩
 rw [← hC] at hst0
 clear hC hW1
 obtain ⟨nb, hnb⟩ : ∃ nb, nb = w.heap.size + 1 := ⟨_, rfl⟩
 rw [← hnb] at hst0
 rw [← hnb]
 clear hnb
 go_upto_region 3 with (go_at_call 18; (with_reducible refine (N4.out _ hd0).mono ?_); rintro e w1 ⟨⟨k, hk, rfl⟩, hg1, hd1⟩)
 have HS0 := Lib.hid (hst0.grown hg1)
 have HD0 := Lib.hid hd1
 clear hst0 hg1 hd1 hd0 N4
 obtain ⟨ip, hip, hz0, hz1, hz2⟩ := infon
 obtain ⟨iq, hiq, hy0, hy1, hy2⟩ := infos
 have hug := Tryz.underlying28
 have hus := Tryz.underlying27
 go_loopw [10] (fun i wr => ∃ (j : Nat) (vn vi : Value) (ns : List ByteArray) (A : List NC), i = .int .i64 j ∧ j ≤ k ∧ NSt 30 9 (n - 1) w wr g nb C 5 vn vi ns A ∧ ns = mNames.take j ∧ A.length = j ∧ (∀ y, y ∈ A → validK (n - 1) y.2 = true) ∧ DiceAt B wr g) (fun i _ => k - (intOf i).toNat)
 case atStart => exact ⟨0, _, _, [], [], rfl, Nat.zero_le _, HS0.out, rfl, rfl, (fun y hy => by simp at hy), HD0.out⟩
 case round =>
  clear HS0 HD0
  obtain ⟨j, vn, vi, ns, A, rfl, hjk, hst, hns, hA, hval, hdi⟩ := hrel
  by_cases hj : j < k
  ·have hj' : (j : Int) < (k : Int) := by omega
   have hj4 : (j : Int) < 4 := by omega
   have hj0 : (0 : Int) ≤ (j : Int) := by omega
   obtain ⟨s, hs⟩ : ∃ s, mNames[j]? = some s := ⟨mNames[j]'(by show j < 4; omega), List.getElem?_eq_getElem _⟩
   have hl4 : ([Value.string ⟨#[97]⟩, Value.string ⟨#[98]⟩, Value.string ⟨#[118]⟩, Value.string ⟨#[100]⟩] : List Value)[j]? = some (.string s) := by
    have h : (mNames.map Value.string)[j]? = some (.string s) := by rw [List.getElem?_map, hs]; rfl
    exact h
   have hss : s.size ≤ maxLen - 2 := mNames_size s (List.mem_of_getElem? hs)
   have hnl : ns.length = j := by rw [hns, List.length_take]; show min j 4 = j; omega
   have HNS := Lib.hid hns
   have HA := Lib.hid hA
   have HV := Lib.hid hval
   have HS := Lib.hid hs
   have hst1 := hst.below ((Below.refl wr.heap.size wr).drew)
   have hdi1 := hdi.go ((Below.refl wr.heap.size wr).drew)
   have hc1 := (six_of hst1.nod).2.2.2.2.1
   clear hns hA hval hs hst hdi
   go_upto_region 5 with fail
   refine wp_region_plan (fun w' => w'.cell? ⟨nb, 4, none⟩ = some vn) [1] (.take 0 (.take 1 (.take 3 (.ask 2 true (.take 4 (.ask 5 true (.ask 6 true (.ask 7 false (.ask 8 false (.ask 9 false .stop .stop) .stop) .stop) .stop) .stop)) .stop)))) (by kernel_rfl) (by kernel_rfl) (fun _ d _ _ _ h => by cases d <;> exact h) hc1 ?_
   generalize wr.drew = wd at hst1 hdi1 hc1 ⊢
   refine take_any _ ?_ rfl rfl ?_ (fun K hK => ?_); rotate_left; (intro w0; go_simp; (try rfl)); (go_simp; refine hK _ ?_; clear hK K)
   refine take_held _ ?_ rfl rfl (by decide) ?_ (fun K hK => ?_); rotate_left; (intro w0 hw0; go_simp; (try rfl)); (go_simp; refine hK _ ?_; clear hK K)
   refine take_any _ ?_ rfl rfl ?_ (fun K hK => ?_); rotate_left; (intro w0; go_simp; (try rfl)); (go_simp; refine hK _ ?_; clear hK K)
   obtain ⟨o1, ho1⟩ : ∃ o, o = Obj.cells #[.string ⟨#[97]⟩, .string ⟨#[98]⟩, .string ⟨#[118]⟩, .string ⟨#[100]⟩] 9 (0, 0) := ⟨_, rfl⟩
   have hst2 := hst1.below ((Below.refl wd.heap.size wd).alloc (o := o1) (Nat.le_refl _))
   have hdi2 := hdi1.go ((Below.refl wd.heap.size wd).alloc (o := o1) (Nat.le_refl _))
   have hcl : (wd.alloc o1).cell? ⟨wd.heap.size, j, none⟩ = some (.string s) := cells_lit _ ((heap_alloc_new wd o1).trans (by rw [ho1])) rfl j _ hl4
   have hzz2 : (wd.alloc o1).heap.size = wd.heap.size + 1 := by simp
   rw [ho1] at hcl hzz2 hst2 hdi2
   clear ho1
   refine ask_step _ rfl trivial ?_
   go_wp2_with fail
   generalize hW : wd.alloc (.cells #[.string ⟨#[97]⟩, .string ⟨#[98]⟩, .string ⟨#[118]⟩, .string ⟨#[100]⟩] 9) = W2 at hcl hzz2 hst2 hdi2 ⊢
   have hc2 := (six_of hst2.nod).2.2.2.2.1
   clear hW hl4
   refine Seg.mk ⟨hc2, ?_⟩
   refine take_any _ ?_ rfl rfl ?_ (fun K hK => ?_); rotate_left; (intro w0; go_simp; (try rfl)); (go_simp; refine hK _ ?_; clear hK K)
   refine ask_step _ rfl trivial ?_
   go_wp2_with fail
   refine Seg.mk ⟨hc2, ?_⟩
   have hst3 := hst2.below ((Below.refl W2.heap.size W2).alloc (o := .cells #[.string s] 9) (Nat.le_refl _))
   have hdi3 := hdi2.go ((Below.refl W2.heap.size W2).alloc (o := .cells #[.string s] 9) (Nat.le_refl _))
   have hn3 := heap_alloc_new W2 (.cells #[.string s] 9)
   rw [hzz2] at hn3
   have hzz3 : (W2.alloc (.cells #[.string s] 9)).heap.size = W2.heap.size + 1 := by simp
   refine ask_step _ rfl trivial ?_
   go_wp2_with fail
   generalize hW : W2.alloc (.cells #[.string s] 9) = W3 at hn3 hzz3 hst3 hdi3 ⊢
   have hc3 := (six_of hst3.nod).2.2.2.2.1
   clear hW hst2 hdi2
   refine Seg.mk ⟨hc3, ?_⟩
   have hN3 : ∀ q u, ([Value.string s] : List Value)[q]? = some u → W3.cell? ((⟨wd.heap.size + 1, 0, none⟩ : Addr).add q) = some u := by
    intro q u hq
    have := cells_lit [Value.string s] hn3 rfl q u hq
    rw [Addr.add_lit, Nat.zero_add]; exact this
   have HN3 := Lib.hid hN3
   have HW := Lib.hid hzz3
   have hO := Lib.hid hst3.names.1
   have hbs := hst3.lo.2.2.2
   have HI := Lib.hid hiq
   clear hN3 hn3 hzz3
   refine ask_late _ rfl trivial ?_
   go_wp2_with ((refine wpList_append_lies _ rfl (.tmp 14) (.tmp 19) 27 rfl C 9 iq (.string ⟨#[]⟩) 1 16 hus HI.out hy0 hy1 hy2 rfl (by decide) vn ns.length _ rfl hO.out ⟨wd.heap.size + 1, 0, none⟩ 1 1 [.string s] rfl rfl HN3.out (by intro u hu; simp at hu; subst hu; rfl) (by decide) (by unfold maxLen; omega) (by omega) hbs _ rfl ?_); intro gg cc W4 hown hgrow hat hlt)
   refine Seg.mk ?_
   refine ask_late _ rfl trivial ?_
   go_wp2_with fail
   refine Seg.mk ?_
   have hst4 := hst3.name hown hgrow (own_at hat) hss
   have hdi4 := hst3.dice (.inl rfl) hdi3 hgrow 4 (.slice (some ⟨gg, 0, none⟩) (ns.length + 1) cc)
   have hk4 := (hst3.apart (.inl rfl) hgrow nb hst3.lo.2.2.1).trans hst3.nod
   have hf4 := free_six hk4
   have hd4 := six_of hk4
   rw [hnl] at hst4 hdi4
   clear hown hgrow hat hst3 hdi3 hk4 hnl hO HN3 hbs HW hc2 hc3 hc1 hcl hst1 hdi1
   refine ask_last _ rfl trivial ?_
   go_wp2_with fail
   generalize W4.setCell ⟨nb, 4, none⟩ (.slice (some ⟨gg, 0, none⟩) (j + 1) cc) = wl at hst4 hdi4 ⊢
   clear hf4 hd4
   generalize Value.slice (some ⟨gg, 0, none⟩) (j + 1) cc = vn' at hst4 ⊢
   have hst5 := hst4.below ((Below.refl wl.heap.size wl).drew)
   have hdi5 := hdi4.go ((Below.refl wl.heap.size wl).drew)
   have hc5 := (six_of hst5.nod).2.2.2.2.2
   clear hst4 hdi4
   refine wp_region_plan (fun w' => w'.cell? ⟨nb, 5, none⟩ = some vi) [1] (.take 0 (.take 1 (.take 2 (.take 3 (.take 4 (.ask 5 true (.ask 6 true (.ask 7 false (.ask 8 false (.ask 9 false .stop .stop) .stop) .stop) .stop) .stop)))))) (by kernel_rfl) (by kernel_rfl) (fun _ d _ _ _ h => by cases d <;> exact h) hc5 ?_
   generalize wl.drew = wd5 at hst5 hdi5 hc5 ⊢
   refine take_any _ ?_ rfl rfl ?_ (fun K hK => ?_); rotate_left; (intro w0; go_simp; (try rfl)); (go_simp; refine hK _ ?_; clear hK K)
   refine take_held _ ?_ rfl rfl (by decide) ?_ (fun K hK => ?_); rotate_left; (intro w0 hw0; go_simp; (try rfl)); (go_simp; refine hK _ ?_; clear hK K)
   iterate 3 (refine take_any _ ?_ rfl rfl ?_ (fun K hK => ?_); rotate_left; (intro w0; go_simp; (try rfl)); (go_simp; refine hK _ ?_; clear hK K))
   refine ask_step _ rfl trivial ?_
   go_wp2_with (go_at_call 9; (with_reducible refine (HKN.out _ hdi5).mono ?_); rintro e w6 ⟨⟨cs, x, rfl, hnode, hvx⟩, hg6, hdi6⟩)
   have hst6 := hst5.grown hg6
   have hc6 := (six_of hst6.nod).2.2.2.2.2
   refine Seg.mk ⟨hc6, ?_⟩
   have b7 := (Below.refl w6.heap.size w6).alloc (o := .cells cs.toArray 30) (Nat.le_refl _)
   have hst7 := hst6.below b7
   have hdi7 := hdi6.go b7
   have hfr := hst5.fresh hnode b7
   have hn7 := heap_alloc_new w6 (.cells cs.toArray 30)
   have hone := hnode.one
   obtain ⟨va, vb, hcs⟩ := hnode.form
   have HCS := Lib.hid hcs
   rw [hcs] at b7 hst7 hdi7 hfr hn7 hone
   rw [hcs]
   clear hcs hnode
   refine ask_step _ rfl trivial ?_
   go_wp2_with fail
   generalize hW : w6.alloc (.cells #[.int .i64 x.kind, .bool x.bool, .int .i64 x.num, .string x.text, va, vb] 30) = W7 at b7 hst7 hdi7 hfr hn7 ⊢
   have hc7 := (six_of hst7.nod).2.2.2.2.2
   clear hW hst6 hc6 hst5 hc5 hdi5 hdi6
   refine Seg.mk ⟨hc7, ?_⟩
   have hN7 : ∀ q u, ([Value.int IntKind.i64 x.kind, .bool x.bool, .int .i64 x.num, .string x.text, va, vb] : List Value)[q]? = some u → W7.cell? ((⟨w6.heap.size, 0, none⟩ : Addr).add q) = some u := by
    intro q u hq
    have := cells_lit _ hn7 rfl q u hq
    rw [Addr.add_lit, Nat.zero_add]; exact this
   have HN7 := Lib.hid hN7
   have HI2 := Lib.hid hip
   have hO7 := Lib.hid hst7.items.1
   have hbs7 := hst7.lo.2.2.2
   have HONE := Lib.hid hone
   have hAl : A.length = j := HA.out
   have HFR := Lib.hid hfr
   clear hN7 hn7 hone hfr
   refine ask_late _ rfl trivial ?_
   go_wp2_with ((refine wpList_append_lies _ rfl (.tmp 23) (.tmp 28) 28 rfl C 30 ip (.agg #[.int .i64 0, .bool false, .int .i64 0, .string ⟨#[]⟩, .slice none 0 0, .slice none 0 0]) 6 88 hug HI2.out hz0 hz1 hz2 rfl (by decide) vi A.length _ rfl hO7.out ⟨w6.heap.size, 0, none⟩ 1 1 [.int .i64 x.kind, .bool x.bool, .int .i64 x.num, .string x.text, va, vb] rfl rfl HN7.out HONE.out (by decide) (by unfold maxLen; omega) (by omega) hbs7 _ rfl ?_); intro g8 c8 W8 hown hgrow hat hlt)
   refine Seg.mk ?_
   refine ask_late _ rfl trivial ?_
   go_wp2_with fail
   refine Seg.mk ?_
   have hst8 := hst7.item hown hgrow (own_at hat) HFR.out
   have hdi8 := hst7.dice (.inr rfl) hdi7 hgrow 5 (.slice (some ⟨g8, 0, none⟩) (A.length + 1) c8)
   have hk8 := (hst7.apart (.inr rfl) hgrow nb hst7.lo.2.2.1).trans hst7.nod
   have hf8 := free_six hk8
   have hd8 := six_of hk8
   rw [hAl] at hst8 hdi8
   clear hown hgrow hat hst7 hdi7 hk8 hAl hO7 HN7 hbs7
   refine ask_last _ rfl trivial ?_
   go_wp2_with fail
   generalize W8.setCell ⟨nb, 5, none⟩ (.slice (some ⟨g8, 0, none⟩) (j + 1) c8) = w9 at hst8 hdi8 ⊢
   clear hf8 hd8
   go_roundw
   case rel =>
    refine ⟨j + 1, _, _, _, _, by go_num, by omega, hst8, ?_, ?_, ?_, hdi8⟩
    ·rw [HNS.out, List.take_add_one, HS.out]; rfl
    ·rw [List.length_append, HA.out]; rfl
    ·intro y hy
     rcases List.mem_append.1 hy with hy | hy
     ·exact HV.out y hy
     ·cases List.mem_singleton.1 hy; exact hvx
   case measure => simp [intOf]; omega
  ·have hjk2 : ¬ (j : Int) < (k : Int) := by omega
   have hjk3 : j = k := by omega
   obtain ⟨an, L1, cpn, hvn⟩ : ∃ a l c, vn = Value.slice a l c := by obtain ⟨a, c, h, _⟩ := hst.names.strs; exact ⟨a, _, c, h⟩
   obtain ⟨ai, L2, cpi, hvi⟩ : ∃ a l c, vi = Value.slice a l c := by obtain ⟨a, c, h, _⟩ := hst.items.nodes; exact ⟨a, _, c, h⟩
   subst hvn
   subst hvi
   obtain ⟨l1, l2, l3, l4⟩ := hst.lo
   have fn := free_six hst.nod
   have cn := six_of hst.nod
   have fr := free_six hst.res
   have cr := six_of hst.res
   have hne : ¬ w.heap.size = nb := by omega
   have hne2 : ¬ nb = w.heap.size := by omega
   have HST := Lib.hid hst
   have HNS := Lib.hid hns
   have HA := Lib.hid hA
   have HV := Lib.hid hval
   have HDI := Lib.hid hdi
   have HJ := Lib.hid hjk3
   clear hst hns hA hval hdi hjk3
   go_wp2
   have hput := six_put HST.out.res (.int .i64 5) (.bool false) (.int .i64 0) (.string ⟨#[]⟩) (.slice an L1 cpn) (.slice ai L2 cpi)
   have hgs := grown_set6 wr w.heap.size (.int .i64 5) (.bool false) (.int .i64 0) (.string ⟨#[]⟩) (.slice an L1 cpn) (.slice ai L2 cpi)
   refine bodyPost_ret (v := .agg #[.int .i64 5, .bool false, .int .i64 0, .string ⟨#[]⟩, .slice an L1 cpn, .slice ai L2 cpi]) ?_ ?_ ?_
   rotate_left
   ·rfl
   ·refine ⟨⟨[.int .i64 5, .bool false, .int .i64 0, .string ⟨#[]⟩, .slice an L1 cpn, .slice ai L2 cpi], .mk 5 false 0 ⟨#[]⟩ ns (nodesOf A), rfl, ?_, ?_, ?_, ?_, ?_⟩, ?_, ?_⟩
    ·have hnd := HST.out.node
     rw [show n - 1 + 1 = n by omega] at hnd
     exact (hnd.same fun b hb => hgs.block b hb.2 (by intro e; have := Option.some.inj e; omega)).mono fun b hb => ⟨by omega, Nat.lt_of_lt_of_le hb.2 hgs.size⟩
    ·have hlA : (nodesOf A).length = j := by rw [nodesOf, List.length_map]; exact HA.out
     have hlN : ns.length = j := by rw [HNS.out, List.length_take]; show min j 4 = j; omega
     refine ⟨rfl, rfl, rfl, rfl, hlN.trans hlA.symm, by show (nodesOf A).length ≤ 256; omega, ?_, ?_, ?_⟩
     ·intro s hs
      have hs' : s ∈ mNames := List.mem_of_mem_take (i := j) (by rw [← HNS.out]; exact hs)
      exact mNames_ok s hs'
     ·show ns.Nodup
      rw [HNS.out]
      exact List.Sublist.nodup (List.take_sublist _ _) mNames_nodup
     ·intro y hy
      obtain ⟨z, hz, rfl⟩ := List.mem_map.1 hy
      exact validK_valid (HV.out z hz)
    ·show (nodesOf A).length ≤ 3
     rw [nodesOf, List.length_map, HA.out]; omega
    ·intro y hy
     obtain ⟨z, hz, rfl⟩ := List.mem_map.1 hy
     exact HV.out z hz
    ·have hlA : (nodesOf A).length = j := by rw [nodesOf, List.length_map]; exact HA.out
     have hc : costs (n - 1) (nodesOf A) ≤ _ := costs_few (fun y hy => by
      obtain ⟨z, hz, rfl⟩ := List.mem_map.1 hy
      exact HV.out z hz) (by omega)
     have hns : (ns.map fun s => 6 * s.size + 8).sum ≤ 56 := by
      refine Nat.le_trans (sum_le (c := 14) fun s hs => ?_) ?_
      ·have hs' : s ∈ mNames := List.mem_of_mem_take (i := j) (by rw [← HNS.out]; exact hs)
       have := mNames_one s hs'
       omega
      ·rw [HNS.out, List.length_take]
       show 14 * min j 4 ≤ 56
       omega
     obtain ⟨m, hm⟩ : ∃ m, n = m + 1 := ⟨n - 1, by omega⟩
     rw [hm, Nat.add_sub_cancel] at hc
     rw [hm, costN_succ, bndN_succ]
     unfold costs at hc
     show 24 + 6 * 0 + (ns.map fun s => 6 * s.size + 8).sum + ((nodesOf A).map fun y => costN m y + 1).sum ≤ _
     omega
    ·have := HST.out.gro
     exact ⟨hgs.os.trans this.os, hgs.tape.trans this.tape, hgs.output.trans this.output, Nat.le_trans this.size hgs.size, fun i hi hn => (hgs.block i (Nat.lt_of_lt_of_le hi this.size) (by intro e; have := Option.some.inj e; omega)).trans (this.block i hi hn)⟩
    ·exact HDI.out.same fun q hq => hgs.block q (by omega) (by intro e; have := Option.some.inj e; omega)
   ·obtain ⟨q0, q1, q2, q3, q4, q5⟩ := six_of hput
    simp only [set6] at q0 q1 q2 q3 q4 q5
    simp [results, Tryz.results8, go_sem, q0, q1, q2, q3, q4, q5]
end Go.Proofs.YtmlmdidaldcoiaaGreatDoor
