/- The walk of ThresholdSums. -/
import Derived.Test.YtefhhfpdponabaaTsa
namespace Go.Proofs.Ytefhhfpdponabaa
open Go Go.ChangeShapes Go.WideShapes Go.ChangeAt Go.RowKit
set_option linter.unusedVariables false
set_option linter.unusedSimpArgs false

set_option maxHeartbeats 12800000 in
set_option maxRecDepth 100000 in
theorem sums13_walk (a : Option Addr) (len cap : Nat) (zs : List Int) (turn : Int) (w : World) (hn : NumsB w.heap.size w a len cap zs) (k1 : -9223372036854775808 ≤ turn) (k2 : turn ≤ 9223372036854775807) :
    Calls Try.prog 6 #[.slice a len cap, .int .i64 turn] w fun e w' => e = .returned (.bool true) ∧ Below w.heap.size w w' := by
  have AW := Lib.hid (fun (wx : World) => awake13_any wx)
  have LI := Lib.hid (fun wx : World => light_any a len cap wx)
  have RO := Lib.hid (roll_any a len cap zs w hn)
  by_cases h500 : (len : Int) ≤ 500
  rotate_left
  · rw [decide_eq_false h500] at LI
    clear h500
    go_enter Try.func6, Try.ntmps6
    go_wp2_with (first
      | (go_at_call 8; (with_reducible refine (LI.out _).mono ?_); rintro e w3 ⟨rfl, rfl⟩)
      | (go_at_call 9; (with_reducible refine (AW.out _).mono ?_); rintro e w1 ⟨rfl, hb1⟩))
    go_ret
    exact ⟨rfl, hb1⟩
  rw [decide_eq_true h500] at LI
  have N9 := Lib.hid (fun (wx : World) (h : DiceAt w.heap.size wx w.heap.size) => next_lit w.heap.size w.heap.size 9 9 rfl wx (by decide) (by decide) h)
  have NC := Lib.hid (fun (wx : World) (h : DiceAt w.heap.size wx w.heap.size) => next_lit w.heap.size w.heap.size 100 100 rfl wx (by decide) (by decide) h)
  have N4 := Lib.hid (fun (wx : World) (h : DiceAt w.heap.size wx w.heap.size) => next_lit w.heap.size w.heap.size 4 4 rfl wx (by decide) (by decide) h)
  obtain ⟨i0, hi, hz0, hz1, hz2⟩ := info_parts Try.infoF
  have HI := Lib.hid (And.intro hi (And.intro hz0 (And.intro hz1 hz2)))
  have MD := Lib.hid (fun (wx : World) (n : Nat) (h1 : 1 ≤ n) (h2 : n ≤ 100) => mod_any turn n wx h1 (by omega) k1 k2)
  clear hi hz0 hz1 hz2 hn h500 k1 k2
  go_enter Try.func6, Try.ntmps6
  go_upto_region 6 with (first
    | (go_at_call 8; (with_reducible refine (LI.out _).mono ?_); rintro e w3 ⟨rfl, rfl⟩)
    | (go_at_call 10; (with_reducible refine (RO.out).mono ?_); rintro e w1 ⟨rfl, hb1, hd1⟩)
    | (go_at_call 11; (with_reducible refine (N9.out _ hd1).mono ?_); rintro e w2 ⟨⟨r, hr9, rfl⟩, hg2, hd2⟩))
  have hb2 := gbelow hb1 hg2 hb1.size (Nat.le_refl _)
  have hDC := hd2.lt
  obtain ⟨C, hC⟩ : ∃ C, C = w2.heap.size := ⟨_, rfl⟩
  rw [← hC] at hDC
  have hC2 : C ≤ w2.heap.size := by omega
  clear hC hb1 hd1 hg2 RO LI N9
  go_loopw [6, 24] (fun s i wr => ∃ (t : Nat) (l : List FR) (vo : Option Addr) (vc : Nat), t ≤ r ∧ i = .int .i64 t ∧ l.length = t ∧ Hid (∀ f ∈ l, wtB f = true) ∧ s = .slice vo t vc ∧ wr.ownsRow C 39 2 (.slice vo t vc) t (cellsF l) ∧ DiceAt w.heap.size wr w.heap.size ∧ Below w.heap.size w wr ∧ C ≤ wr.heap.size) (fun _ i _ => r - (intOf i).toNat)
  case atStart => exact ⟨0, [], none, 0, Nat.zero_le _, rfl, rfl, Lib.hid (fun f hf => by cases hf), rfl, World.ownsRow_nil _ _ _ _, hd2, hb2, hC2⟩
  case round =>
    clear hd2 hb2 hC2
    obtain ⟨t, l, vo, vc, ht, rfl, hlt, hwt, rfl, hO, hD, hB, hCr⟩ := hrel
    by_cases hlr : t < r
    · have HO := Lib.hid hO
      have HD := Lib.hid hD
      have HB := Lib.hid hB
      clear hO hD hB
      go_upto_region 8 with (go_at_call 11; (with_reducible refine (NC.out _ HD.out).mono ?_); rintro e w3 ⟨⟨dd, hdd, rfl⟩, hg3, hd3⟩)
      obtain ⟨d, hde⟩ : ∃ d, d = 1 + dd := ⟨_, rfl⟩
      have di : (1 : Int) + (dd : Int) = (d : Int) := by omega
      try rw [di]
      have hd1 : 1 ≤ d := by omega
      have hd100 : d ≤ 100 := by omega
      have HO3 := Lib.hid (owns_grown HO.out hg3 (by omega))
      have HB3 := Lib.hid (gbelow HB.out hg3 HB.out.size (Nat.le_refl _))
      have hs3 := hg3.size
      clear hde hdd hg3
      go_upto_region 9 with (first
        | (go_at_call 11; (with_reducible refine (N4.out _ hd3).mono ?_); rintro e w4 ⟨⟨q, hq, rfl⟩, hg4, hd4⟩; have HO4 := Lib.hid (owns_grown HO3.out hg4 (by omega)); have HB4 := Lib.hid (gbelow HB3.out hg4 HB3.out.size (Nat.le_refl _)); have hs4 := hg4.size; have hD4 := Lib.hid hd4)
        | (at_builtin; refine wpList_append_own _ rfl (.tmp 29) (.tmp 35) 26 rfl C 39 i0 (.agg #[.int .i64 0, .int .i64 0]) 2 16 Try.underlying26 HI.out.1 HI.out.2.1 HI.out.2.2.1 HI.out.2.2.2 rfl (by decide) _ t _ rfl (HO4.out.alloc _) ⟨w4.heap.size, 0, none⟩ 1 1 [.int .i64 (min 1 (q : Int)), .int .i64 d] rfl rfl (cells_new _ _ _ _ rfl) (one2 _ _) (by unfold maxLen; omega) (by omega) (by simp; omega) ?_; intro v2 w5 hO5 hg5 _))
      clear HO3 HB3 hd3 hg4 hd4
      obtain ⟨x, hx⟩ : ∃ x : Int, (min 1 (q : Int)) = x := ⟨_, rfl⟩
      rw [hx] at hO5 hg5
      (try rw [hx])
      have hx01 : x = 0 ∨ x = 1 := by omega
      clear hx
      have hOx := HO4.out.alloc (.cells #[.int .i64 x, .int .i64 d] 39)
      have hD5 := Lib.hid ((hD4.out.go ((Below.refl w4.heap.size w4).alloc (Nat.le_refl _) (.cells #[.int .i64 x, .int .i64 d] 39))).same (fun j hj => own_kept hOx hg5 j (by omega) (by have := hD4.out.lt; simp; omega)))
      have hB5 := Lib.hid (obelowC (HB4.out.alloc (by have := HB4.out.size; omega) (.cells #[.int .i64 x, .int .i64 d] 39)) hOx (by omega) hg5 (by have := HB4.out.size; simp; omega))
      have hs5 : C ≤ w5.heap.size := by have h1 := hg5.size; have h2 : (w4.alloc (.cells #[.int .i64 x, .int .i64 d] 39)).heap.size = w4.heap.size + 1 := by simp
                                        omega
      obtain ⟨g1, cap1, rfl, hg1, hn1, hm1, hRow⟩ := own_row2 hO5 (Nat.succ_pos _)
      have hlc : (cellsF l).length = t * 2 := by rw [cellsF_length, hlt]
      have c1 := hRow.cellAt (j := t * 2) (u := .int .i64 x) (by rw [List.getElem?_append_right (by omega), hlc, Nat.sub_self]; rfl)
      have c2 := hRow.there (j := t * 2 + 1) (by omega)
      have HO5 := Lib.hid hO5
      clear hg5 hOx hO5 HO4 HB4 hD4
      have tlt : (t : Int) < (t : Int) + 1 := by omega
      have tsub : (t : Int) + 1 - 1 = (t : Int) := by omega
      rcases hx01 with rfl | rfl
      · go_upto_region 10 with fail
        have c3 := (hRow.there (j := t * 2 + 1) (by omega)).2
        obtain ⟨u1, hu1⟩ := Option.isSome_iff_exists.1 c2.1
        go_wp2
        have hO6 := own_store HO5.out (t * 2 + 1) (.int .i64 1)
        have hD6 := hD5.out.setNew (k := g1) (by omega) (t * 2 + 1) (.int .i64 1)
        have hB6 := hB5.out.setCell (p := ⟨g1, t * 2 + 1, none⟩) (by show w.heap.size ≤ g1; omega) (.int .i64 1)
        have hs6 : C ≤ (w5.setCell ⟨g1, t * 2 + 1, none⟩ (.int .i64 1)).heap.size := by simp; omega
        have hls : (cellsF l ++ [Value.int .i64 0, .int .i64 d]).set (t * 2 + 1) (.int .i64 1) = cellsF (l ++ [(0, 1)]) := by
          rw [cellsF_snoc, List.set_append_right _ _ (by omega), hlc, show t * 2 + 1 - t * 2 = 1 by omega]; rfl
        rw [hls] at hO6
        generalize w5.setCell ⟨g1, t * 2 + 1, none⟩ (.int .i64 1) = W at hO6 hD6 hB6 hs6 ⊢
        have hwt6 : Hid (∀ f ∈ l ++ [(0, 1)], wtB f = true) := Lib.hid (fun f hf => by
          rcases List.mem_append.1 hf with h | h
          · exact hwt.out f h
          · rw [List.mem_singleton] at h; rw [h]; exact by decide)
        have HR := Lib.hid (show ∃ (t' : Nat) (l : List FR) (vo : Option Addr) (vc : Nat), t' ≤ r ∧ Value.int .i64 ((t : Int) + 1) = .int .i64 t' ∧ l.length = t' ∧ Hid (∀ f ∈ l, wtB f = true) ∧ Value.slice (some ⟨g1, 0, none⟩) (t + 1) cap1 = .slice vo t' vc ∧ W.ownsRow C 39 2 (.slice vo t' vc) t' (cellsF l) ∧ DiceAt w.heap.size W w.heap.size ∧ Below w.heap.size w W ∧ C ≤ W.heap.size from ⟨t + 1, l ++ [(0, 1)], some ⟨g1, 0, none⟩, cap1, by omega, by go_num, by simp [hlt], hwt6, rfl, hO6, hD6, hB6, hs6⟩)
        clear hO6 hD6 hB6 hwt6
        exact ⟨HR.out, by simp [intOf]; omega⟩
      · go_upto_region 10 with fail
        have hO6 := HO5.out
        have hls : cellsF l ++ [Value.int .i64 1, .int .i64 d] = cellsF (l ++ [(1, (d : Int))]) := (cellsF_snoc l (1, (d : Int))).symm
        rw [hls] at hO6
        have hD6 := hD5.out
        have hB6 := hB5.out
        have hs6 := hs5
        have hwt6 : Hid (∀ f ∈ l ++ [(1, (d : Int))], wtB f = true) := Lib.hid (fun f hf => by
          rcases List.mem_append.1 hf with h | h
          · exact hwt.out f h
          · rw [List.mem_singleton] at h; rw [h]; exact wt_one d hd1 hd100)
        have HR := Lib.hid (show ∃ (t' : Nat) (l : List FR) (vo : Option Addr) (vc : Nat), t' ≤ r ∧ Value.int .i64 ((t : Int) + 1) = .int .i64 t' ∧ l.length = t' ∧ Hid (∀ f ∈ l, wtB f = true) ∧ Value.slice (some ⟨g1, 0, none⟩) (t + 1) cap1 = .slice vo t' vc ∧ w5.ownsRow C 39 2 (.slice vo t' vc) t' (cellsF l) ∧ DiceAt w.heap.size w5 w.heap.size ∧ Below w.heap.size w w5 ∧ C ≤ w5.heap.size from ⟨t + 1, l ++ [(1, (d : Int))], some ⟨g1, 0, none⟩, cap1, by omega, by go_num, by simp [hlt], hwt6, rfl, hO6, hD6, hB6, hs6⟩)
        clear hO6 hD6 hB6 hwt6
        exact ⟨HR.out, by simp [intOf]; omega⟩
    · obtain rfl : t = r := by omega
      clear hlr
      obtain ⟨n1, hn1⟩ : ∃ n1 : Nat, n1 = t + 1 := ⟨_, rfl⟩
      have hni : (t : Int) + 1 = (n1 : Int) := by omega
      obtain ⟨m, hm⟩ : ∃ m : Nat, turn % (n1 : Int) = (m : Int) := ⟨(turn % (n1 : Int)).toNat, by have := Int.emod_nonneg turn (b := (n1 : Int)) (by omega); omega⟩
      have hmt : m ≤ t := by have := Int.emod_lt_of_pos turn (b := (n1 : Int)) (by omega); omega
      have M1 := Lib.hid (fun wx : World => MD.out wx n1 (by omega) (by omega))
      rw [hm] at M1
      have hn9 : (n1 : Int) ≤ 9 := by omega
      clear MD hm hn1
      have hw8 : wts l := ⟨by omega, hwt.out⟩
      have hcop := sumF_cop hw8.den
      have hden := sumF_den hw8.den
      have hbd := sumF_bound l (0, 1) 0 (by decide) (by decide) (by decide) hw8.2
      have hle := sumF_le (a := l.take m) (b := l.drop m) (fun f hf => hw8.den f (List.mem_of_mem_take hf)) (fun f hf => hw8.den f (List.mem_of_mem_drop hf))
      rw [List.take_append_drop] at hle
      have hden2 := sumF_den (l := l.take m) (fun f hf => hw8.den f (List.mem_of_mem_take hf))
      have hbd2 := sumF_bound (l.take m) (0, 1) 0 (by decide) (by decide) (by decide) (fun f hf => hw8.2 f (List.mem_of_mem_take hf))
      have hsx : sumF (l.drop m ++ l.take m) = sumF l := by
        rw [sumF_append (fun f hf => hw8.den f (List.mem_of_mem_drop hf)) (fun f hf => hw8.den f (List.mem_of_mem_take hf)), List.take_append_drop]
      have HWX : Hid (∀ f ∈ l.drop m ++ l.take m, wtB f = true) := Lib.hid (fun f hf => by
          rcases List.mem_append.1 hf with h | h
          · exact hwt.out f (List.mem_of_mem_drop h)
          · exact hwt.out f (List.mem_of_mem_take h))
      have TX := Lib.hid (fun (wx : World) (v : Value) (h : FrsAt wx.heap.size wx v (l.drop m ++ l.take m)) => tsum_ok v _ wx h ⟨by rw [List.length_append, List.length_drop, List.length_take]; omega, HWX.out⟩)
      have T1 := Lib.hid (fun (wx : World) (v : Value) (h : FrsAt wx.heap.size wx v l) => tsum_ok v l wx h hw8)
      have T2 := Lib.hid (fun (wx : World) (v : Value) (h : FrsAt wx.heap.size wx v (l.take m)) => tsum_ok v (l.take m) wx h (wts_take hw8 m))
      rw [hsx] at TX
      have e1 : (l.foldl stepF (0, 1)) = sumF l := rfl
      have e2 : ((l.take m).foldl stepF (0, 1)) = sumF (l.take m) := rfl
      rw [e1] at hbd
      rw [e2] at hbd2
      obtain ⟨N, hN⟩ : ∃ N, N = (sumF l).1 := ⟨_, rfl⟩
      obtain ⟨D, hD0⟩ : ∃ D, D = (sumF l).2 := ⟨_, rfl⟩
      obtain ⟨N2, hN2⟩ : ∃ N, N = (sumF (l.take m)).1 := ⟨_, rfl⟩
      obtain ⟨D2, hD2⟩ : ∃ D, D = (sumF (l.take m)).2 := ⟨_, rfl⟩
      rw [← hN, ← hD0] at hcop hle hbd TX T1
      rw [← hD0] at hden
      rw [← hN2, ← hD2] at hle hbd2 T2
      rw [← hD2] at hden2
      have hlt8 : l.length ≤ 8 := hw8.1
      have hNb : N ≤ 80000000000000000 ∧ D ≤ 10000000000000000 := by
        have h1 := hbd.2.1
        have h2 := hbd.2.2
        have hp : (100 : Nat) ^ (0 + l.length) ≤ 100 ^ 8 := Nat.pow_le_pow_right (by decide) (by omega)
        have hD' : D ≤ 10000000000000000 := Nat.le_trans h1 hp
        have hN' : N ≤ 8 * D := Nat.le_trans h2 (Nat.mul_le_mul_right _ (by omega))
        omega
      have hNb2 : N2 ≤ 80000000000000000 ∧ D2 ≤ 10000000000000000 := by
        have h1 := hbd2.2.1
        have h2 := hbd2.2.2
        have hlm : (l.take m).length ≤ 8 := by rw [List.length_take]; omega
        have hp : (100 : Nat) ^ (0 + (l.take m).length) ≤ 100 ^ 8 := Nat.pow_le_pow_right (by decide) (by omega)
        have hD' : D2 ≤ 10000000000000000 := Nat.le_trans h1 hp
        have hN' : N2 ≤ 8 * D2 := Nat.le_trans h2 (Nat.mul_le_mul_right _ (by omega))
        omega
      have HQ := Lib.hid (div_le hden2 hden hle)
      have HCOP := Lib.hid hcop
      obtain ⟨hNb, hDb⟩ := hNb
      obtain ⟨hNb2, hDb2⟩ := hNb2
      have FL := Lib.hid (frs_owns l hO hwt.out)
      have FM := Lib.hid ((frs_owns l hO hwt.out).take m (by omega))
      have HO := Lib.hid hO
      have HB := Lib.hid hB
      have hmv : (m : Int) ≤ (vc : Int) := by
        have := FL.out
        obtain ⟨_, _, e, h, -⟩ := this
        cases e; omega
      clear hO hD hB e1 e2 hN hD0 hN2 hD2 hsx hbd hbd2 hle hcop hw8
      go_upto_region 14 with (first
        | (go_at_call 14; (with_reducible refine (M1.out _).mono ?_); rintro e w5 ⟨rfl, rfl⟩)
        | (go_at_call 19; (with_reducible refine (T1.out _ _ FL.out).mono ?_); rintro e w6 ⟨rfl, hb6⟩))
      have HB7 := Lib.hid (((HB.out.trans (hb6.mono HB.out.size))).alloc (o := .cells #[.int .i64 (N : Int), .int .i64 (D : Int)] 39) (by have := HB.out.size; have := hb6.size; omega))
      have HW7 := Lib.hid (hb6.alloc (o := .cells #[.int .i64 (N : Int), .int .i64 (D : Int)] 39) hb6.size)
      have A9 := Lib.hid (Arr.new w6 [.int .i64 (N : Int), .int .i64 (D : Int)] 39)
      obtain ⟨G9, hG9⟩ : ∃ b, b = w6.heap.size := ⟨_, rfl⟩
      rw [← hG9] at A9
      (try rw [← hG9])
      generalize w6.alloc (.cells #[.int .i64 (N : Int), .int .i64 (D : Int)] 39) = w7 at A9 HB7 HW7 ⊢
      clear hG9 hb6 HB T1
      go_cut [11, 12] from 62 to 73 (fun v11 v12 wx => ∃ b, v11 = .pointer (some ⟨b, 0, none⟩) ∧ v12 = .int .i64 0 ∧ w7.heap.size ≤ b ∧ Arr wx b 39 [.int .i64 N, .int .i64 D] ∧ Below w7.heap.size w7 wx)
      case first =>
        rcases HO.out.2 with ⟨hv, h0⟩ | ⟨g, cap, cur, hv, -⟩
        · obtain ⟨rfl, rfl, rfl⟩ : vo = none ∧ t = 0 ∧ vc = 0 := by cases hv; exact ⟨rfl, rfl, rfl⟩
          obtain rfl : l = [] := List.eq_nil_of_length_eq_zero hlt
          obtain rfl : m = 0 := by omega
          have hap := run_append_nils
          clear hv h0
          refine wp_region_plan (fun w' => True) [] (.take 0 (.take 1 (.take 2 (.take 4 (.take 5 (.take 6 (Plan.join true (.ask 3 false (.ask 7 false (.ask 8 false (.take 9 (.take 10 (.take 11 (.ask 12 false .stop .stop)))) (.ask 12 false (.ask 8 false (.take 9 (.take 10 (.take 11 .stop))) .stop) .stop)) (.ask 12 false (.ask 7 false (.ask 8 false (.take 9 (.take 10 (.take 11 .stop))) .stop) .stop) .stop)) (.ask 12 false (.ask 3 false (.ask 7 false (.ask 8 false (.take 9 (.take 10 (.take 11 .stop))) .stop) .stop) .stop) .stop)) (.ask 13 false (.take 14 .stop) .stop)))))))) (by kernel_rfl) (by kernel_rfl) (fun _ d _ _ _ h => by cases d <;> exact h) trivial ?_
          have hbd : Below w7.heap.size w7 w7.drew := (Below.refl w7.heap.size w7).drew
          have HSD : Hid (w7.drew.heap.size = w7.heap.size) := Lib.hid rfl
          generalize w7.drew = wd at hbd HSD ⊢
          have hbd0 := Below.refl wd.heap.size wd
          refine take_any _ ?_ rfl rfl ?_ (fun K hK => ?_); rotate_left; (intro w0; go_simp; (try rfl)); (go_simp; refine hK _ ?_; clear hK K)
          refine take_any _ ?_ rfl rfl ?_ (fun K hK => ?_); rotate_left; (intro w0; go_simp; (try rfl)); (go_simp; refine hK _ ?_; clear hK K)
          refine take_any _ ?_ rfl rfl ?_ (fun K hK => ?_); rotate_left; (intro w0; go_simp; (try rfl)); (go_simp; refine hK _ ?_; clear hK K)
          refine take_any _ ?_ rfl rfl ?_ (fun K hK => ?_); rotate_left; (intro w0; go_simp; (try rfl)); (go_simp; refine hK _ ?_; clear hK K)
          refine take_any _ ?_ rfl rfl ?_ (fun K hK => ?_); rotate_left; (intro w0; go_simp; (try rfl)); (go_simp; refine hK _ ?_; clear hK K)
          refine take_any _ ?_ rfl rfl ?_ (fun K hK => ?_); rotate_left; (intro w0; go_simp; (try rfl)); (go_simp; refine hK _ ?_; clear hK K)
          refine plan_cut [11, 62, 66, 70, 71, 72, 73] (fun vs wx => ∃ b v66 v70, vs = [.pointer (some ⟨b, 0, none⟩), .tuple #[.agg #[.int .i64 (N : Int), .int .i64 (D : Int)], .int .i64 0], v66, v70, .tuple #[.agg #[.int .i64 (N : Int), .int .i64 (D : Int)], .int .i64 0], .agg #[.int .i64 (N : Int), .int .i64 (D : Int)], .int .i64 0] ∧ wd.heap.size ≤ b ∧ Arr wx b 39 [.int .i64 0, .int .i64 0] ∧ Below wd.heap.size wd wx) ?_ ?_
          · skip
            refine ask_late _ rfl ?_ ?_
            rotate_left
            · skip
              go_wp2_with fail
              refine Seg.mk ?_
              refine ask_late _ rfl ?_ ?_
              rotate_left
              · skip
                go_wp2_with fail
                refine Seg.mk ?_
                refine ask_late _ rfl ?_ ?_
                rotate_left
                · skip
                  have fs1 : FrsAt wd.heap.size wd (.slice none 0 0) (([] : List FR).drop 0 ++ ([] : List FR).take 0) := frs_nil _ _
                  go_wp2_with (go_at_call 19; (with_reducible refine (TX.out _ _ fs1).mono ?_); rintro e w1 ⟨rfl, hb1⟩)
                  refine Seg.mk ?_
                  have bb1 := hbd0.trans (hb1.mono hbd0.size)
                  refine take_any _ ?_ rfl rfl ?_ (fun K hK => ?_); rotate_left; (intro w0; go_simp; (try rfl)); (go_simp; refine hK _ ?_; clear hK K)
                  refine take_any _ ?_ rfl rfl ?_ (fun K hK => ?_); rotate_left; (intro w0; go_simp; (try rfl)); (go_simp; refine hK _ ?_; clear hK K)
                  refine take_any _ ?_ rfl rfl ?_ (fun K hK => ?_); rotate_left; (intro w0; go_simp; (try rfl)); (go_simp; refine hK _ ?_; clear hK K)
                  refine ask_late _ rfl trivial ?_
                  go_wp2_with fail
                  have ka2 : Arr (w1.alloc (.cells #[.int .i64 0, .int .i64 0] 39)) w1.heap.size 39 [.int .i64 0, .int .i64 0] := heap_alloc_new _ _
                  have ba2 := bb1.alloc (o := (.cells #[.int .i64 0, .int .i64 0] 39)) bb1.size
                  obtain ⟨B2, hB2⟩ : ∃ b, b = w1.heap.size := ⟨_, rfl⟩
                  have la2 : wd.heap.size ≤ B2 := by rw [hB2]; exact bb1.size
                  rw [← hB2] at ka2
                  (try rw [← hB2])
                  have HHB2 := Lib.hid hB2; clear hB2
                  generalize World.alloc w1 (.cells #[.int .i64 0, .int .i64 0] 39) = wa2 at ka2 ba2  ⊢
                  refine Seg.mk ?_
                  exact plan_meet [.pointer (some ⟨B2, 0, none⟩), .tuple #[.agg #[.int .i64 (N : Int), .int .i64 (D : Int)], .int .i64 0], .slice none 0 0, .slice none 0 0, .tuple #[.agg #[.int .i64 (N : Int), .int .i64 (D : Int)], .int .i64 0], .agg #[.int .i64 (N : Int), .int .i64 (D : Int)], .int .i64 0] (by first | exact ⟨_, _, _, rfl, la2, ka2, ba2⟩ | exact ⟨_, ⟨_, _, rfl⟩, la2, ka2, ba2⟩ | exact ⟨_, _, _, rfl, Nat.le_refl _, ka2, by rw [HHB2.out]; exact ba2⟩ | exact ⟨_, ⟨_, _, rfl⟩, Nat.le_refl _, ka2, by rw [HHB2.out]; exact ba2⟩) (by simp only [puts, Act.put, List.setIfInBounds_toArray, List.set_cons_zero, List.set_cons_succ])
                · skip
                  refine ask_late _ rfl trivial ?_
                  go_wp2_with fail
                  have ka3 : Arr (wd.alloc (.cells #[.int .i64 0, .int .i64 0] 39)) wd.heap.size 39 [.int .i64 0, .int .i64 0] := heap_alloc_new _ _
                  have ba3 := hbd0.alloc (o := (.cells #[.int .i64 0, .int .i64 0] 39)) hbd0.size
                  obtain ⟨B3, hB3⟩ : ∃ b, b = wd.heap.size := ⟨_, rfl⟩
                  have la3 : wd.heap.size ≤ B3 := by rw [hB3]; exact hbd0.size
                  rw [← hB3] at ka3
                  (try rw [← hB3])
                  have HHB3 := Lib.hid hB3; clear hB3
                  generalize World.alloc wd (.cells #[.int .i64 0, .int .i64 0] 39) = wa3 at ka3 ba3  ⊢
                  refine Seg.mk ?_
                  refine ask_late _ rfl trivial ?_
                  have fs4 : FrsAt wa3.heap.size wa3 (.slice none 0 0) (([] : List FR).drop 0 ++ ([] : List FR).take 0) := frs_nil _ _
                  go_wp2_with (go_at_call 19; (with_reducible refine (TX.out _ _ fs4).mono ?_); rintro e w4 ⟨rfl, hb4⟩)
                  refine Seg.mk ?_
                  have bb4 := ba3.trans (hb4.mono ba3.size)
                  have kk4 := ka3.of_block (hb4.block _ ka3.lt)
                  refine take_any _ ?_ rfl rfl ?_ (fun K hK => ?_); rotate_left; (intro w0; go_simp; (try rfl)); (go_simp; refine hK _ ?_; clear hK K)
                  refine take_any _ ?_ rfl rfl ?_ (fun K hK => ?_); rotate_left; (intro w0; go_simp; (try rfl)); (go_simp; refine hK _ ?_; clear hK K)
                  refine take_any _ ?_ rfl rfl ?_ (fun K hK => ?_); rotate_left; (intro w0; go_simp; (try rfl)); (go_simp; refine hK _ ?_; clear hK K)
                  exact plan_meet [.pointer (some ⟨B3, 0, none⟩), .tuple #[.agg #[.int .i64 (N : Int), .int .i64 (D : Int)], .int .i64 0], .slice none 0 0, .slice none 0 0, .tuple #[.agg #[.int .i64 (N : Int), .int .i64 (D : Int)], .int .i64 0], .agg #[.int .i64 (N : Int), .int .i64 (D : Int)], .int .i64 0] (by first | exact ⟨_, _, _, rfl, la3, kk4, bb4⟩ | exact ⟨_, ⟨_, _, rfl⟩, la3, kk4, bb4⟩ | exact ⟨_, _, _, rfl, Nat.le_refl _, kk4, by rw [HHB3.out]; exact bb4⟩ | exact ⟨_, ⟨_, _, rfl⟩, Nat.le_refl _, kk4, by rw [HHB3.out]; exact bb4⟩) (by simp only [puts, Act.put, List.setIfInBounds_toArray, List.set_cons_zero, List.set_cons_succ])
              · skip
                refine ask_late _ rfl trivial ?_
                go_wp2_with fail
                have ka5 : Arr (wd.alloc (.cells #[.int .i64 0, .int .i64 0] 39)) wd.heap.size 39 [.int .i64 0, .int .i64 0] := heap_alloc_new _ _
                have ba5 := hbd0.alloc (o := (.cells #[.int .i64 0, .int .i64 0] 39)) hbd0.size
                obtain ⟨B5, hB5⟩ : ∃ b, b = wd.heap.size := ⟨_, rfl⟩
                have la5 : wd.heap.size ≤ B5 := by rw [hB5]; exact hbd0.size
                rw [← hB5] at ka5
                (try rw [← hB5])
                have HHB5 := Lib.hid hB5; clear hB5
                generalize World.alloc wd (.cells #[.int .i64 0, .int .i64 0] 39) = wa5 at ka5 ba5  ⊢
                refine Seg.mk ?_
                refine ask_late _ rfl trivial ?_
                go_wp2_with fail
                refine Seg.mk ?_
                refine ask_late _ rfl trivial ?_
                have fs6 : FrsAt wa5.heap.size wa5 (.slice none 0 0) (([] : List FR).drop 0 ++ ([] : List FR).take 0) := frs_nil _ _
                go_wp2_with (go_at_call 19; (with_reducible refine (TX.out _ _ fs6).mono ?_); rintro e w6 ⟨rfl, hb6⟩)
                refine Seg.mk ?_
                have bb6 := ba5.trans (hb6.mono ba5.size)
                have kk6 := ka5.of_block (hb6.block _ ka5.lt)
                refine take_any _ ?_ rfl rfl ?_ (fun K hK => ?_); rotate_left; (intro w0; go_simp; (try rfl)); (go_simp; refine hK _ ?_; clear hK K)
                refine take_any _ ?_ rfl rfl ?_ (fun K hK => ?_); rotate_left; (intro w0; go_simp; (try rfl)); (go_simp; refine hK _ ?_; clear hK K)
                refine take_any _ ?_ rfl rfl ?_ (fun K hK => ?_); rotate_left; (intro w0; go_simp; (try rfl)); (go_simp; refine hK _ ?_; clear hK K)
                exact plan_meet [.pointer (some ⟨B5, 0, none⟩), .tuple #[.agg #[.int .i64 (N : Int), .int .i64 (D : Int)], .int .i64 0], .slice none 0 0, .slice none 0 0, .tuple #[.agg #[.int .i64 (N : Int), .int .i64 (D : Int)], .int .i64 0], .agg #[.int .i64 (N : Int), .int .i64 (D : Int)], .int .i64 0] (by first | exact ⟨_, _, _, rfl, la5, kk6, bb6⟩ | exact ⟨_, ⟨_, _, rfl⟩, la5, kk6, bb6⟩ | exact ⟨_, _, _, rfl, Nat.le_refl _, kk6, by rw [HHB5.out]; exact bb6⟩ | exact ⟨_, ⟨_, _, rfl⟩, Nat.le_refl _, kk6, by rw [HHB5.out]; exact bb6⟩) (by simp only [puts, Act.put, List.setIfInBounds_toArray, List.set_cons_zero, List.set_cons_succ])
            · skip
              refine ask_late _ rfl trivial ?_
              go_wp2_with fail
              have ka7 : Arr (wd.alloc (.cells #[.int .i64 0, .int .i64 0] 39)) wd.heap.size 39 [.int .i64 0, .int .i64 0] := heap_alloc_new _ _
              have ba7 := hbd0.alloc (o := (.cells #[.int .i64 0, .int .i64 0] 39)) hbd0.size
              obtain ⟨B7, hB7⟩ : ∃ b, b = wd.heap.size := ⟨_, rfl⟩
              have la7 : wd.heap.size ≤ B7 := by rw [hB7]; exact hbd0.size
              rw [← hB7] at ka7
              (try rw [← hB7])
              have HHB7 := Lib.hid hB7; clear hB7
              generalize World.alloc wd (.cells #[.int .i64 0, .int .i64 0] 39) = wa7 at ka7 ba7  ⊢
              refine Seg.mk ?_
              refine ask_late _ rfl trivial ?_
              go_wp2_with fail
              refine Seg.mk ?_
              refine ask_late _ rfl trivial ?_
              go_wp2_with fail
              refine Seg.mk ?_
              refine ask_late _ rfl trivial ?_
              have fs8 : FrsAt wa7.heap.size wa7 (.slice none 0 0) (([] : List FR).drop 0 ++ ([] : List FR).take 0) := frs_nil _ _
              go_wp2_with (go_at_call 19; (with_reducible refine (TX.out _ _ fs8).mono ?_); rintro e w8 ⟨rfl, hb8⟩)
              refine Seg.mk ?_
              have bb8 := ba7.trans (hb8.mono ba7.size)
              have kk8 := ka7.of_block (hb8.block _ ka7.lt)
              refine take_any _ ?_ rfl rfl ?_ (fun K hK => ?_); rotate_left; (intro w0; go_simp; (try rfl)); (go_simp; refine hK _ ?_; clear hK K)
              refine take_any _ ?_ rfl rfl ?_ (fun K hK => ?_); rotate_left; (intro w0; go_simp; (try rfl)); (go_simp; refine hK _ ?_; clear hK K)
              refine take_any _ ?_ rfl rfl ?_ (fun K hK => ?_); rotate_left; (intro w0; go_simp; (try rfl)); (go_simp; refine hK _ ?_; clear hK K)
              exact plan_meet [.pointer (some ⟨B7, 0, none⟩), .tuple #[.agg #[.int .i64 (N : Int), .int .i64 (D : Int)], .int .i64 0], .slice none 0 0, .slice none 0 0, .tuple #[.agg #[.int .i64 (N : Int), .int .i64 (D : Int)], .int .i64 0], .agg #[.int .i64 (N : Int), .int .i64 (D : Int)], .int .i64 0] (by first | exact ⟨_, _, _, rfl, la7, kk8, bb8⟩ | exact ⟨_, ⟨_, _, rfl⟩, la7, kk8, bb8⟩ | exact ⟨_, _, _, rfl, Nat.le_refl _, kk8, by rw [HHB7.out]; exact bb8⟩ | exact ⟨_, ⟨_, _, rfl⟩, Nat.le_refl _, kk8, by rw [HHB7.out]; exact bb8⟩) (by simp only [puts, Act.put, List.setIfInBounds_toArray, List.set_cons_zero, List.set_cons_succ])
          rintro vs w8 ⟨b, v66, v70, rfl, hbb, ka, hb8⟩; simp only [puts, Act.put, List.setIfInBounds_toArray, List.set_cons_zero, List.set_cons_succ]
          have hbx := hbd.trans (hb8.mono (by rw [HSD.out]; exact Nat.le_refl _))
          have hbz : w7.heap.size ≤ b := by rw [← HSD.out]; exact hbb
          refine ask_late _ rfl trivial ?_
          go_wp2_with (refine wp_st rfl 39 (.tmp 11) (.tmp 72) rfl _ [.int .i64 N, .int .i64 D] rfl rfl ka Try.infofr rfl rfl (one2 _ _) ?_)
          refine Seg.mk ?_
          refine take_any _ ?_ rfl rfl ?_ (fun K hK => ?_); rotate_left; (intro w0; go_simp; (try rfl)); (go_simp; refine hK _ ?_; clear hK K)
          unfold wpPlan
          go_wp2
          go_meet
          exact ⟨b, rfl, rfl, hbz, ka.setRow [.int .i64 N, .int .i64 D], below_setRow hbx b hbz _⟩
        · obtain ⟨rfl, rfl⟩ : vo = some ⟨g, 0, none⟩ ∧ vc = cap := by cases hv; exact ⟨rfl, rfl⟩
          obtain ⟨hg, hcn, hcm, hRow⟩ := row_own HO.out
          have HR7 := Lib.hid (hRow.below HW7.out hRow.lt)
          have HgL : Hid (g < w7.heap.size) := Lib.hid (Nat.lt_of_lt_of_le hRow.lt HW7.out.size)
          have HM : Hid (m ≤ l.length) := Lib.hid (by omega)
          clear hv hg hRow
          refine wp_region_plan (fun w' => True) [] (.take 0 (.take 1 (.take 2 (.take 4 (.take 5 (.take 6 (Plan.join true (.ask 3 false (.ask 7 false (.ask 8 false (.take 9 (.take 10 (.take 11 (.ask 12 false .stop .stop)))) (.ask 12 false (.ask 8 false (.take 9 (.take 10 (.take 11 .stop))) .stop) .stop)) (.ask 12 false (.ask 7 false (.ask 8 false (.take 9 (.take 10 (.take 11 .stop))) .stop) .stop) .stop)) (.ask 12 false (.ask 3 false (.ask 7 false (.ask 8 false (.take 9 (.take 10 (.take 11 .stop))) .stop) .stop) .stop) .stop)) (.ask 13 false (.take 14 .stop) .stop)))))))) (by kernel_rfl) (by kernel_rfl) (fun _ d _ _ _ h => by cases d <;> exact h) trivial ?_
          have hbd : Below w7.heap.size w7 w7.drew := (Below.refl w7.heap.size w7).drew
          have HSD : Hid (w7.drew.heap.size = w7.heap.size) := Lib.hid rfl
          generalize w7.drew = wd at hbd HSD ⊢
          have HR7 := Lib.hid (HR7.out.of_block (hbd.block g HgL.out))
          have HgL : Hid (g < wd.heap.size) := Lib.hid (by rw [HSD.out]; exact HgL.out)
          have hbd0 := Below.refl wd.heap.size wd
          obtain ⟨ad, had, HAd⟩ : ∃ ad : Addr, (if vc = m then some (⟨g, 0, none⟩ : Addr) else some ⟨g, m * 2, none⟩) = some ad ∧ Hid (∀ wx : World, Row wx g 39 (vc * 2) (cellsF l) → ∀ j u, (cellsF (l.drop m))[j]? = some u → wx.cell? (ad.add j) = some u) := by
            by_cases hc : vc = m
            · refine ⟨⟨g, 0, none⟩, by rw [if_pos hc], Lib.hid (fun wx _ j u e => ?_)⟩
              rw [List.drop_of_length_le (by omega)] at e; cases e
            · exact ⟨⟨g, m * 2, none⟩, by rw [if_neg hc], Lib.hid (fun wx h => cells_row h m HM.out)⟩
          refine take_any _ ?_ rfl rfl ?_ (fun K hK => ?_); rotate_left; (intro w0; go_simp; (try rfl)); (go_simp; refine hK _ ?_; clear hK K)
          refine take_any _ ?_ rfl rfl ?_ (fun K hK => ?_); rotate_left; (intro w0; go_simp; (try rfl)); (go_simp; refine hK _ ?_; clear hK K)
          refine take_any _ (.slice (some ad) (t - m) (vc - m)) rfl rfl ?_ (fun K hK => ?_); rotate_left; (go_simp; refine hK _ ?_; clear hK K); rotate_left
          · intro w0; go_simp; (try exact had)
          clear had
          refine take_any _ ?_ rfl rfl ?_ (fun K hK => ?_); rotate_left; (intro w0; go_simp; (try rfl)); (go_simp; refine hK _ ?_; clear hK K)
          refine take_any _ ?_ rfl rfl ?_ (fun K hK => ?_); rotate_left; (intro w0; go_simp; (try rfl)); (go_simp; refine hK _ ?_; clear hK K)
          have hm0 : (0 : Int) ≤ (m : Int) := by omega
          refine take_any _ (.slice (some ⟨g, 0, none⟩) m vc) rfl rfl ?_ (fun K hK => ?_); rotate_left; (go_simp; refine hK _ ?_; clear hK K); rotate_left
          · intro w0; go_simp
          refine plan_cut [11, 62, 66, 70, 71, 72, 73] (fun vs wx => ∃ b v66 v70, vs = [.pointer (some ⟨b, 0, none⟩), .tuple #[.agg #[.int .i64 (N : Int), .int .i64 (D : Int)], .int .i64 0], v66, v70, .tuple #[.agg #[.int .i64 (N : Int), .int .i64 (D : Int)], .int .i64 0], .agg #[.int .i64 (N : Int), .int .i64 (D : Int)], .int .i64 0] ∧ wd.heap.size ≤ b ∧ Arr wx b 39 [.int .i64 0, .int .i64 0] ∧ Below wd.heap.size wd wx) ?_ ?_
          · skip
            refine ask_late _ rfl ?_ ?_
            rotate_left
            · skip
              have rw9 := HR7.out.of_block (hbd0.block g HgL.out)
              go_wp2_with (at_builtin; go_loud (refine wpList_append_own _ rfl (.const (.slice none 0 0)) (.tmp 65) 26 rfl wd.heap.size 39 i0 (.agg #[.int .i64 0, .int .i64 0]) 2 16 Try.underlying26 HI.out.1 HI.out.2.1 HI.out.2.2.1 HI.out.2.2.2 rfl (by decide) (.slice none 0 0) 0 [] rfl (World.ownsRow_nil _ _ _ _) ad (t - m) (vc - m) (cellsF (l.drop m)) rfl (by rw [cellsF_length, List.length_drop]; omega) (HAd.out _ rw9) (cellsF_one _) (by unfold maxLen; omega) (by omega) hbd0.size ?_); intro v9 w9 ho9 hg9 _)
              refine Seg.mk ?_
              have bb9 := obelowC hbd0 (World.ownsRow_nil wd wd.heap.size 39 2) (Nat.le_refl _) hg9 hbd0.size
              refine ask_late _ rfl ?_ ?_
              rotate_left
              · skip
                have rw10 := HR7.out.of_block (bb9.block g HgL.out)
                go_wp2_with (at_builtin; refine wpList_append_own _ rfl (.tmp 66) (.tmp 69) 26 rfl wd.heap.size 39 i0 (.agg #[.int .i64 0, .int .i64 0]) 2 16 Try.underlying26 HI.out.1 HI.out.2.1 HI.out.2.2.1 HI.out.2.2.2 rfl (by decide) _ (0 + (t - m)) _ rfl ho9 ⟨g, 0, none⟩ m vc (cellsF (l.take m)) rfl (by rw [cellsF_length, List.length_take]; omega) (cells_row0 rw10 m) (cellsF_one _) (by unfold maxLen; omega) (by omega) bb9.size ?_; intro v10 w10 ho10 hg10 _)
                refine Seg.mk ?_
                have bb10 := obelowC bb9 ho9 (Nat.le_refl _) hg10 bb9.size
                refine ask_late _ rfl ?_ ?_
                rotate_left
                · skip
                  have fs11 := frs_owns (l.drop m ++ l.take m) (by rw [cellsF_append]; exact ho10) HWX.out
                  go_wp2_with (go_at_call 19; (with_reducible refine (TX.out _ _ fs11).mono ?_); rintro e w11 ⟨rfl, hb11⟩)
                  refine Seg.mk ?_
                  have bb11 := bb10.trans (hb11.mono bb10.size)
                  refine take_any _ ?_ rfl rfl ?_ (fun K hK => ?_); rotate_left; (intro w0; go_simp; (try rfl)); (go_simp; refine hK _ ?_; clear hK K)
                  refine take_any _ ?_ rfl rfl ?_ (fun K hK => ?_); rotate_left; (intro w0; go_simp; (try rfl)); (go_simp; refine hK _ ?_; clear hK K)
                  refine take_any _ ?_ rfl rfl ?_ (fun K hK => ?_); rotate_left; (intro w0; go_simp; (try rfl)); (go_simp; refine hK _ ?_; clear hK K)
                  refine ask_late _ rfl trivial ?_
                  go_wp2_with fail
                  have ka12 : Arr (w11.alloc (.cells #[.int .i64 0, .int .i64 0] 39)) w11.heap.size 39 [.int .i64 0, .int .i64 0] := heap_alloc_new _ _
                  have ba12 := bb11.alloc (o := (.cells #[.int .i64 0, .int .i64 0] 39)) bb11.size
                  obtain ⟨B12, hB12⟩ : ∃ b, b = w11.heap.size := ⟨_, rfl⟩
                  have la12 : wd.heap.size ≤ B12 := by rw [hB12]; exact bb11.size
                  rw [← hB12] at ka12
                  (try rw [← hB12])
                  have HHB12 := Lib.hid hB12; clear hB12
                  generalize World.alloc w11 (.cells #[.int .i64 0, .int .i64 0] 39) = wa12 at ka12 ba12  ⊢
                  refine Seg.mk ?_
                  exact plan_meet [.pointer (some ⟨B12, 0, none⟩), .tuple #[.agg #[.int .i64 (N : Int), .int .i64 (D : Int)], .int .i64 0], v9, v10, .tuple #[.agg #[.int .i64 (N : Int), .int .i64 (D : Int)], .int .i64 0], .agg #[.int .i64 (N : Int), .int .i64 (D : Int)], .int .i64 0] (by first | exact ⟨_, _, _, rfl, la12, ka12, ba12⟩ | exact ⟨_, ⟨_, _, rfl⟩, la12, ka12, ba12⟩ | exact ⟨_, _, _, rfl, Nat.le_refl _, ka12, by rw [HHB12.out]; exact ba12⟩ | exact ⟨_, ⟨_, _, rfl⟩, Nat.le_refl _, ka12, by rw [HHB12.out]; exact ba12⟩) (by simp only [puts, Act.put, List.setIfInBounds_toArray, List.set_cons_zero, List.set_cons_succ])
                · skip
                  refine ask_late _ rfl trivial ?_
                  go_wp2_with fail
                  have ka13 : Arr (w10.alloc (.cells #[.int .i64 0, .int .i64 0] 39)) w10.heap.size 39 [.int .i64 0, .int .i64 0] := heap_alloc_new _ _
                  have ba13 := bb10.alloc (o := (.cells #[.int .i64 0, .int .i64 0] 39)) bb10.size
                  have oa13 := ho10.alloc (.cells #[.int .i64 0, .int .i64 0] 39)
                  obtain ⟨B13, hB13⟩ : ∃ b, b = w10.heap.size := ⟨_, rfl⟩
                  have la13 : wd.heap.size ≤ B13 := by rw [hB13]; exact bb10.size
                  rw [← hB13] at ka13
                  (try rw [← hB13])
                  have lo13 := (fun b e => (ho10.lt b e).2 : ∀ b, _ = some b → b < w10.heap.size)
                  rw [← hB13] at lo13
                  have HHB13 := Lib.hid hB13; clear hB13
                  generalize World.alloc w10 (.cells #[.int .i64 0, .int .i64 0] 39) = wa13 at ka13 ba13 oa13 ⊢
                  refine Seg.mk ?_
                  refine ask_late _ rfl trivial ?_
                  have fs14 := frs_owns (l.drop m ++ l.take m) (by rw [cellsF_append]; exact oa13) HWX.out
                  go_wp2_with (go_at_call 19; (with_reducible refine (TX.out _ _ fs14).mono ?_); rintro e w14 ⟨rfl, hb14⟩)
                  refine Seg.mk ?_
                  have bb14 := ba13.trans (hb14.mono ba13.size)
                  have kk14 := ka13.of_block (hb14.block _ ka13.lt)
                  refine take_any _ ?_ rfl rfl ?_ (fun K hK => ?_); rotate_left; (intro w0; go_simp; (try rfl)); (go_simp; refine hK _ ?_; clear hK K)
                  refine take_any _ ?_ rfl rfl ?_ (fun K hK => ?_); rotate_left; (intro w0; go_simp; (try rfl)); (go_simp; refine hK _ ?_; clear hK K)
                  refine take_any _ ?_ rfl rfl ?_ (fun K hK => ?_); rotate_left; (intro w0; go_simp; (try rfl)); (go_simp; refine hK _ ?_; clear hK K)
                  exact plan_meet [.pointer (some ⟨B13, 0, none⟩), .tuple #[.agg #[.int .i64 (N : Int), .int .i64 (D : Int)], .int .i64 0], v9, v10, .tuple #[.agg #[.int .i64 (N : Int), .int .i64 (D : Int)], .int .i64 0], .agg #[.int .i64 (N : Int), .int .i64 (D : Int)], .int .i64 0] (by first | exact ⟨_, _, _, rfl, la13, kk14, bb14⟩ | exact ⟨_, ⟨_, _, rfl⟩, la13, kk14, bb14⟩ | exact ⟨_, _, _, rfl, Nat.le_refl _, kk14, by rw [HHB13.out]; exact bb14⟩ | exact ⟨_, ⟨_, _, rfl⟩, Nat.le_refl _, kk14, by rw [HHB13.out]; exact bb14⟩) (by simp only [puts, Act.put, List.setIfInBounds_toArray, List.set_cons_zero, List.set_cons_succ])
              · skip
                refine ask_late _ rfl trivial ?_
                go_wp2_with fail
                have ka15 : Arr (w9.alloc (.cells #[.int .i64 0, .int .i64 0] 39)) w9.heap.size 39 [.int .i64 0, .int .i64 0] := heap_alloc_new _ _
                have ba15 := bb9.alloc (o := (.cells #[.int .i64 0, .int .i64 0] 39)) bb9.size
                have oa15 := ho9.alloc (.cells #[.int .i64 0, .int .i64 0] 39)
                obtain ⟨B15, hB15⟩ : ∃ b, b = w9.heap.size := ⟨_, rfl⟩
                have la15 : wd.heap.size ≤ B15 := by rw [hB15]; exact bb9.size
                rw [← hB15] at ka15
                (try rw [← hB15])
                have lo15 := (fun b e => (ho9.lt b e).2 : ∀ b, _ = some b → b < w9.heap.size)
                rw [← hB15] at lo15
                have HHB15 := Lib.hid hB15; clear hB15
                generalize World.alloc w9 (.cells #[.int .i64 0, .int .i64 0] 39) = wa15 at ka15 ba15 oa15 ⊢
                refine Seg.mk ?_
                refine ask_late _ rfl trivial ?_
                have rw16 := HR7.out.of_block (ba15.block g HgL.out)
                go_wp2_with (at_builtin; refine wpList_append_own _ rfl (.tmp 66) (.tmp 69) 26 rfl wd.heap.size 39 i0 (.agg #[.int .i64 0, .int .i64 0]) 2 16 Try.underlying26 HI.out.1 HI.out.2.1 HI.out.2.2.1 HI.out.2.2.2 rfl (by decide) _ (0 + (t - m)) _ rfl oa15 ⟨g, 0, none⟩ m vc (cellsF (l.take m)) rfl (by rw [cellsF_length, List.length_take]; omega) (cells_row0 rw16 m) (cellsF_one _) (by unfold maxLen; omega) (by omega) ba15.size ?_; intro v16 w16 ho16 hg16 _)
                refine Seg.mk ?_
                have bb16 := obelowC ba15 oa15 (Nat.le_refl _) hg16 ba15.size
                have kk16 := ka15.of_block (hg16.block _ ka15.lt (fun e => absurd (lo15 _ e.symm) (Nat.lt_irrefl _)))
                refine ask_late _ rfl trivial ?_
                have fs17 := frs_owns (l.drop m ++ l.take m) (by rw [cellsF_append]; exact ho16) HWX.out
                go_wp2_with (go_at_call 19; (with_reducible refine (TX.out _ _ fs17).mono ?_); rintro e w17 ⟨rfl, hb17⟩)
                refine Seg.mk ?_
                have bb17 := bb16.trans (hb17.mono bb16.size)
                have kk17 := kk16.of_block (hb17.block _ kk16.lt)
                refine take_any _ ?_ rfl rfl ?_ (fun K hK => ?_); rotate_left; (intro w0; go_simp; (try rfl)); (go_simp; refine hK _ ?_; clear hK K)
                refine take_any _ ?_ rfl rfl ?_ (fun K hK => ?_); rotate_left; (intro w0; go_simp; (try rfl)); (go_simp; refine hK _ ?_; clear hK K)
                refine take_any _ ?_ rfl rfl ?_ (fun K hK => ?_); rotate_left; (intro w0; go_simp; (try rfl)); (go_simp; refine hK _ ?_; clear hK K)
                exact plan_meet [.pointer (some ⟨B15, 0, none⟩), .tuple #[.agg #[.int .i64 (N : Int), .int .i64 (D : Int)], .int .i64 0], v9, v16, .tuple #[.agg #[.int .i64 (N : Int), .int .i64 (D : Int)], .int .i64 0], .agg #[.int .i64 (N : Int), .int .i64 (D : Int)], .int .i64 0] (by first | exact ⟨_, _, _, rfl, la15, kk17, bb17⟩ | exact ⟨_, ⟨_, _, rfl⟩, la15, kk17, bb17⟩ | exact ⟨_, _, _, rfl, Nat.le_refl _, kk17, by rw [HHB15.out]; exact bb17⟩ | exact ⟨_, ⟨_, _, rfl⟩, Nat.le_refl _, kk17, by rw [HHB15.out]; exact bb17⟩) (by simp only [puts, Act.put, List.setIfInBounds_toArray, List.set_cons_zero, List.set_cons_succ])
            · skip
              refine ask_late _ rfl trivial ?_
              go_wp2_with fail
              have ka18 : Arr (wd.alloc (.cells #[.int .i64 0, .int .i64 0] 39)) wd.heap.size 39 [.int .i64 0, .int .i64 0] := heap_alloc_new _ _
              have ba18 := hbd0.alloc (o := (.cells #[.int .i64 0, .int .i64 0] 39)) hbd0.size
              obtain ⟨B18, hB18⟩ : ∃ b, b = wd.heap.size := ⟨_, rfl⟩
              have la18 : wd.heap.size ≤ B18 := by rw [hB18]; exact hbd0.size
              rw [← hB18] at ka18
              (try rw [← hB18])
              have HHB18 := Lib.hid hB18; clear hB18
              generalize World.alloc wd (.cells #[.int .i64 0, .int .i64 0] 39) = wa18 at ka18 ba18  ⊢
              refine Seg.mk ?_
              refine ask_late _ rfl trivial ?_
              have rw19 := HR7.out.of_block (ba18.block g HgL.out)
              go_wp2_with (at_builtin; go_loud (refine wpList_append_own _ rfl (.const (.slice none 0 0)) (.tmp 65) 26 rfl wa18.heap.size 39 i0 (.agg #[.int .i64 0, .int .i64 0]) 2 16 Try.underlying26 HI.out.1 HI.out.2.1 HI.out.2.2.1 HI.out.2.2.2 rfl (by decide) (.slice none 0 0) 0 [] rfl (World.ownsRow_nil _ _ _ _) ad (t - m) (vc - m) (cellsF (l.drop m)) rfl (by rw [cellsF_length, List.length_drop]; omega) (HAd.out _ rw19) (cellsF_one _) (by unfold maxLen; omega) (by omega) (Nat.le_refl _) ?_); intro v19 w19 ho19 hg19 _)
              refine Seg.mk ?_
              have bb19 := obelowC ba18 (World.ownsRow_nil wa18 wa18.heap.size 39 2) ba18.size hg19 ba18.size
              have kk19 := ka18.of_block (hg19.block _ ka18.lt nofun)
              refine ask_late _ rfl trivial ?_
              have rw20 := HR7.out.of_block (bb19.block g HgL.out)
              go_wp2_with (at_builtin; refine wpList_append_own _ rfl (.tmp 66) (.tmp 69) 26 rfl wa18.heap.size 39 i0 (.agg #[.int .i64 0, .int .i64 0]) 2 16 Try.underlying26 HI.out.1 HI.out.2.1 HI.out.2.2.1 HI.out.2.2.2 rfl (by decide) _ (0 + (t - m)) _ rfl ho19 ⟨g, 0, none⟩ m vc (cellsF (l.take m)) rfl (by rw [cellsF_length, List.length_take]; omega) (cells_row0 rw20 m) (cellsF_one _) (by unfold maxLen; omega) (by omega) hg19.size ?_; intro v20 w20 ho20 hg20 _)
              refine Seg.mk ?_
              have bb20 := obelowC bb19 ho19 ba18.size hg20 bb19.size
              have kk20 := kk19.of_block (hg20.block _ kk19.lt (fun e => absurd (ho19.lt _ e.symm).1 (Nat.not_le_of_gt ka18.lt)))
              refine ask_late _ rfl trivial ?_
              have fs21 := frs_owns (l.drop m ++ l.take m) (by rw [cellsF_append]; exact ho20) HWX.out
              go_wp2_with (go_at_call 19; (with_reducible refine (TX.out _ _ fs21).mono ?_); rintro e w21 ⟨rfl, hb21⟩)
              refine Seg.mk ?_
              have bb21 := bb20.trans (hb21.mono bb20.size)
              have kk21 := kk20.of_block (hb21.block _ kk20.lt)
              refine take_any _ ?_ rfl rfl ?_ (fun K hK => ?_); rotate_left; (intro w0; go_simp; (try rfl)); (go_simp; refine hK _ ?_; clear hK K)
              refine take_any _ ?_ rfl rfl ?_ (fun K hK => ?_); rotate_left; (intro w0; go_simp; (try rfl)); (go_simp; refine hK _ ?_; clear hK K)
              refine take_any _ ?_ rfl rfl ?_ (fun K hK => ?_); rotate_left; (intro w0; go_simp; (try rfl)); (go_simp; refine hK _ ?_; clear hK K)
              exact plan_meet [.pointer (some ⟨B18, 0, none⟩), .tuple #[.agg #[.int .i64 (N : Int), .int .i64 (D : Int)], .int .i64 0], v19, v20, .tuple #[.agg #[.int .i64 (N : Int), .int .i64 (D : Int)], .int .i64 0], .agg #[.int .i64 (N : Int), .int .i64 (D : Int)], .int .i64 0] (by first | exact ⟨_, _, _, rfl, la18, kk21, bb21⟩ | exact ⟨_, ⟨_, _, rfl⟩, la18, kk21, bb21⟩ | exact ⟨_, _, _, rfl, Nat.le_refl _, kk21, by rw [HHB18.out]; exact bb21⟩ | exact ⟨_, ⟨_, _, rfl⟩, Nat.le_refl _, kk21, by rw [HHB18.out]; exact bb21⟩) (by simp only [puts, Act.put, List.setIfInBounds_toArray, List.set_cons_zero, List.set_cons_succ])
          rintro vs w8 ⟨b, v66, v70, rfl, hbb, ka, hb8⟩; simp only [puts, Act.put, List.setIfInBounds_toArray, List.set_cons_zero, List.set_cons_succ]
          have hbx := hbd.trans (hb8.mono (by rw [HSD.out]; exact Nat.le_refl _))
          have hbz : w7.heap.size ≤ b := by rw [← HSD.out]; exact hbb
          refine ask_late _ rfl trivial ?_
          go_wp2_with (refine wp_st rfl 39 (.tmp 11) (.tmp 72) rfl _ [.int .i64 N, .int .i64 D] rfl rfl ka Try.infofr rfl rfl (one2 _ _) ?_)
          refine Seg.mk ?_
          refine take_any _ ?_ rfl rfl ?_ (fun K hK => ?_); rotate_left; (intro w0; go_simp; (try rfl)); (go_simp; refine hK _ ?_; clear hK K)
          unfold wpPlan
          go_wp2
          go_meet
          exact ⟨b, rfl, rfl, hbz, ka.setRow [.int .i64 N, .int .i64 D], below_setRow hbx b hbz _⟩
      case rest =>
        obtain ⟨b, rfl, rfl, hbb, ka, hbc⟩ := hcut
        have A9c := A9.out.below hbc (A9.out.lt)
        have HB8 := Lib.hid (HB7.out.trans (hbc.mono HB7.out.size))
        have FMc := Lib.hid (FM.out.below (HW7.out.trans (hbc.mono HW7.out.size)) (Nat.le_refl _))
        have hs8 : wr.heap.size ≤ wc.heap.size := Nat.le_trans HW7.out.size hbc.size
        have z1 : wc.cell? ⟨G9, 0, none⟩ = some (.int .i64 N) := A9c.cellAt rfl
        have z2 : wc.cell? ⟨G9, 1, none⟩ = some (.int .i64 D) := A9c.cellAt rfl
        have z3 : wc.cell? ⟨b, 0, none⟩ = some (.int .i64 N) := ka.cellAt rfl
        have z4 : wc.cell? ⟨b, 1, none⟩ = some (.int .i64 D) := ka.cellAt rfl
        have fg := frac_guard
        have fn := fun wx : World => frac_neq_same wx (N : Int) (D : Int)
        have hD1 : ¬ (D : Int) < 1 := by omega
        have HA9 := Lib.hid A9c
        clear A9c ka hbc HB7 HW7 FM FL HO TX A9
        go_upto_region 18 with fail
        clear fg fn z3 z4
        go_loopw [13] (fun i wx => ∃ g : Nat, i = .int .i64 (g : Nat) ∧ 2 ≤ g ∧ g ≤ 101 ∧ wx = wc) (fun i _ => 101 - (intOf i).toNat)
        case atStart => exact ⟨2, rfl, Nat.le_refl _, by omega, rfl⟩
        case round =>
          obtain ⟨g, rfl, hg2, hg101, rfl⟩ := hrel
          by_cases hlt : g ≤ 100
          · have hg0 : ¬ ((g : Int) = 0) := by omega
            have m1 : Int.tmod (N : Int) (g : Int) = ((N % g : Nat) : Int) := by rw [Int.tmod_eq_emod_of_nonneg (by omega)]; rfl
            have m2 : Int.tmod (D : Int) (g : Int) = ((D % g : Nat) : Int) := by rw [Int.tmod_eq_emod_of_nonneg (by omega)]; rfl
            have HNO : Hid (¬ (N % g = 0 ∧ D % g = 0)) := Lib.hid (fun h => by
              have := Nat.dvd_gcd (Nat.dvd_of_mod_eq_zero h.1) (Nat.dvd_of_mod_eq_zero h.2)
              rw [HCOP.out] at this
              have := Nat.le_of_dvd (by decide) this
              omega)
            obtain ⟨x, hx⟩ : ∃ x, x = N % g := ⟨_, rfl⟩
            obtain ⟨y, hy⟩ : ∃ y, y = D % g := ⟨_, rfl⟩
            rw [← hx, ← hy] at HNO
            rw [← hx] at m1
            rw [← hy] at m2
            clear hx hy
            by_cases hx0 : x = 0
            · have hx1 : ((x : Int) == 0) = true := by simp [hx0]
              have hy1 : ((y : Int) == 0) = false := by
                have : y ≠ 0 := fun h => HNO.out ⟨hx0, h⟩
                simp; omega
              clear hx0
              go_wp2
              exact ⟨⟨g + 1, by go_num, by omega, by omega, by first | exact rfl | trivial⟩, by simp [intOf]; omega⟩
            · have hx1 : ((x : Int) == 0) = false := by simp; omega
              clear hx0
              go_wp2
              exact ⟨⟨g + 1, by go_num, by omega, by omega, by first | exact rfl | trivial⟩, by simp [intOf]; omega⟩
          · obtain rfl : g = 101 := by omega
            have F2 := FMc.out.mono hs8
            go_upto_region 23 with (go_at_call 19; (with_reducible refine (T2.out _ _ F2).mono ?_); rintro e w9 ⟨rfl, hb9⟩)
            have hAx := HA9.out.below hb9 HA9.out.lt
            have hAb := hAx.alloc (.cells #[.int .i64 N2, .int .i64 D2] 39)
            have hAc := Arr.new w9 [.int .i64 N2, .int .i64 D2] 39
            have HB9 := Lib.hid ((HB8.out.trans (hb9.mono HB8.out.size)).alloc (o := .cells #[.int .i64 N2, .int .i64 D2] 39) (HB8.out.trans (hb9.mono HB8.out.size)).size)
            clear hAx hb9 z1 z2
            generalize w9.alloc _ = wq at hAb hAc HB9 ⊢
            generalize w9.heap.size = b14 at hAc ⊢
            have z1 : wq.cell? ⟨G9, 0, none⟩ = some (.int .i64 N) := hAb.cellAt rfl
            have z2 : wq.cell? ⟨G9, 1, none⟩ = some (.int .i64 D) := hAb.cellAt rfl
            have z3 : wq.cell? ⟨b14, 0, none⟩ = some (.int .i64 N2) := hAc.cellAt rfl
            have z4 : wq.cell? ⟨b14, 1, none⟩ = some (.int .i64 D2) := hAc.cellAt rfl
            clear hAb hAc
            have hD20 : (1 : Int) ≤ (D2 : Int) := by omega
            have hmx : max (1 : Int) (D2 : Int) = (D2 : Int) := by omega
            have k1 : ¬ (D2 : Int) = 0 := by omega
            have k2 : ¬ (D : Int) = 0 := by omega
            have q1 : Int.tdiv (N2 : Int) (D2 : Int) = ((N2 / D2 : Nat) : Int) := by rw [Int.tdiv_eq_ediv_of_nonneg (by omega)]; rfl
            have q2 : Int.tdiv (N : Int) (D : Int) = ((N / D : Nat) : Int) := by rw [Int.tdiv_eq_ediv_of_nonneg (by omega)]; rfl
            have e1 := Nat.div_le_self N2 D2
            have e2 := Nat.div_le_self N D
            obtain ⟨x, hx⟩ : ∃ x, x = N2 / D2 := ⟨_, rfl⟩
            obtain ⟨y, hy⟩ : ∃ y, y = N / D := ⟨_, rfl⟩
            rw [← hx, ← hy] at HQ
            rw [← hx] at q1 e1
            rw [← hy] at q2 e2
            have hxy : (x : Int) ≤ (y : Int) := by have := HQ.out; omega
            have WX : Hid (IntKind.i64.wrap (x : Int) = (x : Int)) := Lib.hid (by rw [IntKind.wrap_i64]; omega)
            have WY : Hid (IntKind.i64.wrap (y : Int) = (y : Int)) := Lib.hid (by rw [IntKind.wrap_i64]; omega)
            have KN : Hid (¬ D2 = 0) := Lib.hid (by omega)
            have KM : Hid (¬ D = 0) := Lib.hid (by omega)
            clear hx hy HQ
            refine wp_region_plan (fun w' => w'.cell? ⟨b14, 0, none⟩ = some (.int .i64 N2) ∧ w'.cell? ⟨b14, 1, none⟩ = some (.int .i64 D2) ∧ w'.cell? ⟨G9, 0, none⟩ = some (.int .i64 N) ∧ w'.cell? ⟨G9, 1, none⟩ = some (.int .i64 D)) [4, 6, 10, 12] (.take 0 (.take 1 (.take 2 (.take 3 (.take 4 (.take 5 (.take 6 (.take 9 (.take 10 (.take 11 (.take 12 (.take 13 (.ask 7 true (.take 8 (.ask 14 false (.take 15 (.take 16 (.ask 17 false (.take 18 (.take 19 .stop)) .stop))) .stop)) .stop))))))))))))) (by kernel_rfl) (by kernel_rfl) (fun _ d _ _ _ h => by cases d <;> exact h) ⟨z3, z4, z1, z2⟩ ?_
            have HBd := Lib.hid HB9.out.drew
            replace z1 : wq.drew.cell? ⟨G9, 0, none⟩ = some (.int .i64 N) := z1
            replace z2 : wq.drew.cell? ⟨G9, 1, none⟩ = some (.int .i64 D) := z2
            replace z3 : wq.drew.cell? ⟨b14, 0, none⟩ = some (.int .i64 N2) := z3
            replace z4 : wq.drew.cell? ⟨b14, 1, none⟩ = some (.int .i64 D2) := z4
            clear HB9
            generalize wq.drew = wd at HBd z1 z2 z3 z4 ⊢
            refine take_any _ ?_ rfl rfl ?_ (fun K hK => ?_); rotate_left; (intro w0; go_simp; (try rfl)); (go_simp; refine hK _ ?_; clear hK K)
            refine take_any _ ?_ rfl rfl ?_ (fun K hK => ?_); rotate_left; (intro w0; go_simp; (try rfl)); (go_simp; refine hK _ ?_; clear hK K)
            refine take_any _ ?_ rfl rfl ?_ (fun K hK => ?_); rotate_left; (intro w0; go_simp; (try rfl)); (go_simp; refine hK _ ?_; clear hK K)
            refine take_any _ ?_ rfl rfl ?_ (fun K hK => ?_); rotate_left; (intro w0; go_simp; (try rfl)); (go_simp; refine hK _ ?_; clear hK K)
            refine take_held _ ?_ rfl rfl (by decide) ?_ (fun K hK => ?_); rotate_left; (intro w0 hw0; obtain ⟨q1, q2, q3, q4⟩ := hw0; go_simp; (try rfl)); (go_simp; refine hK _ ?_; clear hK K)
            refine take_any _ ?_ rfl rfl ?_ (fun K hK => ?_); rotate_left; (intro w0; go_simp; (try rfl)); (go_simp; refine hK _ ?_; clear hK K)
            refine take_held _ ?_ rfl rfl (by decide) ?_ (fun K hK => ?_); rotate_left; (intro w0 hw0; obtain ⟨q1, q2, q3, q4⟩ := hw0; go_simp; (try rfl)); (go_simp; refine hK _ ?_; clear hK K)
            refine take_any _ ?_ rfl rfl ?_ (fun K hK => ?_); rotate_left; (intro w0; go_simp; (try rfl)); (go_simp; refine hK _ ?_; clear hK K)
            refine take_held _ ?_ rfl rfl (by decide) ?_ (fun K hK => ?_); rotate_left; (intro w0 hw0; obtain ⟨q1, q2, q3, q4⟩ := hw0; go_simp; (try rfl)); (go_simp; refine hK _ ?_; clear hK K)
            refine take_any _ ?_ rfl rfl ?_ (fun K hK => ?_); rotate_left; (intro w0; go_simp; (try rfl)); (go_simp; refine hK _ ?_; clear hK K)
            refine take_held _ ?_ rfl rfl (by decide) ?_ (fun K hK => ?_); rotate_left; (intro w0 hw0; obtain ⟨q1, q2, q3, q4⟩ := hw0; go_simp; (try rfl)); (go_simp; refine hK _ ?_; clear hK K)
            refine take_any _ ?_ rfl rfl ?_ (fun K hK => ?_); rotate_left; (intro w0; go_simp; rw [if_neg KM.out, WY.out]); (go_simp; refine hK _ ?_; clear hK K)
            refine ask_step _ rfl trivial ?_; go_wp2_with fail; refine Seg.mk ⟨⟨z3, z4, z1, z2⟩, ?_⟩
            refine take_any _ ?_ rfl rfl ?_ (fun K hK => ?_); rotate_left; (intro w0; go_simp; rw [if_neg KN.out, WX.out]); (go_simp; refine hK _ ?_; clear hK K)
            refine ask_late _ rfl trivial ?_; go_wp2_with fail; refine Seg.mk ?_
            refine take_any _ ?_ rfl rfl ?_ (fun K hK => ?_); rotate_left; (intro w0; go_simp; (try rfl)); (go_simp; refine hK _ ?_; clear hK K)
            refine take_any _ ?_ rfl rfl ?_ (fun K hK => ?_); rotate_left; (intro w0; go_simp; (try rfl)); (go_simp; refine hK _ ?_; clear hK K)
            refine ask_late _ rfl trivial ?_; go_wp2_with (go_at_call 9; (with_reducible refine (AW.out _).mono ?_); rintro e w7 ⟨rfl, hb7⟩); refine Seg.mk ?_
            refine take_any _ ?_ rfl rfl ?_ (fun K hK => ?_); rotate_left; (intro w0; go_simp; (try rfl)); (go_simp; refine hK _ ?_; clear hK K)
            refine take_any _ ?_ rfl rfl ?_ (fun K hK => ?_); rotate_left; (intro w0; go_simp; (try rfl)); (go_simp; refine hK _ ?_; clear hK K)
            unfold wpPlan
            go_wp2
            go_ret
            exact ⟨rfl, HBd.out.trans (hb7.mono HBd.out.size)⟩
end Go.Proofs.Ytefhhfpdponabaa
