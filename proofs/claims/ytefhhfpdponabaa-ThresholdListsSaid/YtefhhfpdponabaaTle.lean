/- The walk of ThresholdEnough. -/
import Derived.Test.YtefhhfpdponabaaTst
namespace Go.Proofs.Ytefhhfpdponabaa
open Go.ChangeShapes Go.WideShapes Go.ChangeAt Go.RowKit
set_option linter.unusedVariables false
set_option linter.unusedSimpArgs false

theorem IntsAt.grow {B C : Nat} {w : World} {v : Value} {zs : List Int} (h : IntsAt B w v zs) (hC : B ≤ C) : IntsAt C w v zs := by
  obtain ⟨ao, cap, h1, h2, h3, h5⟩ := h
  refine ⟨ao, cap, h1, h2, h3, fun i z e => ?_⟩
  obtain ⟨g, off, a1, a2, a3⟩ := h5 i z e
  exact ⟨g, off, a1, by omega, a3⟩
theorem same_boolN (b : Bool) : (b != b) = false := by cases b <;> rfl
theorem same_boolY (b : Bool) : (b == b) = true := by cases b <;> rfl
set_option maxHeartbeats 1600000 in
set_option maxRecDepth 100000 in
theorem enough13_walk (a : Option Addr) (len cap : Nat) (zs : List Int) (ra : Option Addr) (rlen rcap : Nat) (rzs : List Int) (w : World) (hn : NumsB w.heap.size w a len cap zs) (hr : NumsB w.heap.size w ra rlen rcap rzs) :
    Calls Try.prog 4 #[.slice a len cap, .slice ra rlen rcap] w fun e w' => e = .returned (.bool true) ∧ Below w.heap.size w w' := by
  have AW := Lib.hid (fun (wx : World) => awake13_any wx)
  have LI := Lib.hid (fun wx : World => light_any a len cap wx)
  have RO := Lib.hid (roll_any a len cap zs w hn)
  by_cases h500 : (len : Int) ≤ 500
  rotate_left
  · rw [decide_eq_false h500] at LI
    clear h500
    go_enter Try.func4, Try.ntmps4
    go_wp2_with (first
      | (go_at_call 8; (with_reducible refine (LI.out _).mono ?_); rintro e w3 ⟨rfl, rfl⟩)
      | (go_at_call 9; (with_reducible refine (AW.out _).mono ?_); rintro e w1 ⟨rfl, hb1⟩))
    go_ret
    exact ⟨rfl, hb1⟩
  rw [decide_eq_true h500] at LI
  by_cases h30 : 30 < rlen
  · have h30i : (30 : Int) < (rlen : Int) := by omega
    clear h500
    go_enter Try.func4, Try.ntmps4
    go_wp2_with (first
      | (go_at_call 8; (with_reducible refine (LI.out _).mono ?_); rintro e w3 ⟨rfl, rfl⟩)
      | (go_at_call 9; (with_reducible refine (AW.out _).mono ?_); rintro e w1 ⟨rfl, hb1⟩))
    go_ret
    exact ⟨rfl, hb1⟩
  have h30i : ¬ (30 : Int) < (rlen : Int) := by omega
  have hra := ints_of_nums hr
  obtain ⟨rz, hrz⟩ : ∃ rz, rz = numsL rlen rzs := ⟨_, rfl⟩
  have hrl : rz.length = rlen := by rw [hrz, numsL_length]
  rw [← hrz] at hra
  have N9 := Lib.hid (fun (wx : World) (h : DiceAt w.heap.size wx w.heap.size) => next_lit w.heap.size w.heap.size 9 9 rfl wx (by decide) (by decide) h)
  have N8 := Lib.hid (fun (wx : World) (h : DiceAt w.heap.size wx w.heap.size) => next_lit w.heap.size w.heap.size 8 8 rfl wx (by decide) (by decide) h)
  have KT := Lib.hid (fun (wx : World) (n : Nat) (hn : n ≤ 8) (h : DiceAt w.heap.size wx w.heap.size) => kthr_any w.heap.size w.heap.size n wx hn h)
  have HRA := Lib.hid hra
  obtain ⟨i0, hi, hz0, hz1, hz2⟩ := info_parts Try.infoI
  have HI := Lib.hid (And.intro hi (And.intro hz0 (And.intro hz1 hz2)))
  clear hi hz0 hz1 hz2 hn hr h500 hrz hra
  go_enter Try.func4, Try.ntmps4
  go_upto_region 7 with (first
    | (go_at_call 8; (with_reducible refine (LI.out _).mono ?_); rintro e w3 ⟨rfl, rfl⟩)
    | (go_at_call 10; (with_reducible refine (RO.out).mono ?_); rintro e w1 ⟨rfl, hb1, hd1⟩)
    | (go_at_call 11; (with_reducible refine (N9.out _ hd1).mono ?_); rintro e w2 ⟨⟨n, hn9, rfl⟩, hg2, hd2⟩)
    | (go_at_call 13; (with_reducible refine (KT.out _ n (by omega) hd2).mono ?_); rintro e w4 ⟨⟨num, ws, o, c, rfl, hin, hval, hws, h64⟩, hg4, hd4⟩))
  have hT : Thr w w.heap.size w.heap.size w2.heap.size w4.heap.size num o c ws (w4.alloc (.cells #[.int .i64 num, .slice o ws.length c] 25)) :=
    ⟨hd2.lt, Nat.le_refl _, hg4.size, Nat.le_refl _, hd4.go ((Below.refl w4.heap.size w4).alloc (Nat.le_refl _) _), hin.keep.step (by simp) (fun b _ hb => Below.heap_alloc w4 _ b hb), Arr.new w4 _ _,
      (gbelow (gbelow hb1 hg2 hb1.size (Nat.le_refl _)) hg4 (by have := hb1.size; have := hg2.size; omega) (Nat.le_refl _)).alloc (by have := hb1.size; have := hg2.size; have := hg4.size; omega) _⟩
  generalize w4.alloc (.cells #[.int .i64 num, .slice o ws.length c] 25) = wa at hT ⊢
  generalize w4.heap.size = D at hT ⊢
  generalize w2.heap.size = A at hT ⊢
  have HV := Lib.hid hval
  have ENP := Lib.hid (fun (wx : World) (sv : Value) (zs : List Int) (h : Thr w w.heap.size w.heap.size A D num o c ws wx) (hz : IntsAt wx.heap.size wx sv zs) (hl : zs.length ≤ 1000) => tenough_any wx.heap.size num _ sv ws zs n wx h.at hz (Nat.le_refl _) HV.out (by omega) (by omega))
  have ENR := Lib.hid (fun (wx : World) (sv : Value) (zs : List Int) (h : Thr w w.heap.size w.heap.size A D num o c ws wx) (hz : IntsAt wx.heap.size wx sv zs) (hl : zs.length ≤ 1000) => renough13_any wx.heap.size num _ sv ws zs wx h.at hz (Nat.le_refl _) (valid_keys HV.out).2.2 (by omega) (by omega))
  have mi : (n : Int) + 1 = ((n + 1 : Nat) : Int) := by omega
  have NM := Lib.hid (fun (wx : World) (h : DiceAt w.heap.size wx w.heap.size) => next_any w.heap.size w.heap.size (n + 1) wx (by omega) (by omega) h)
  obtain ⟨m, hm⟩ : ∃ m, m = n + 1 := ⟨_, rfl⟩
  rw [← hm] at mi NM
  have mb : (m : Int) ≤ 100 := by omega
  generalize decide ((30 : Int) < (rlen : Int)) = dd
  clear hm hb1 hd1 hg2 hd2 hin hval hg4 hd4 h64 N9 KT RO LI
  go_loopw [25] (fun i wr => ∃ j : Nat, j ≤ 4 ∧ i = .int .i64 j ∧ Thr w w.heap.size w.heap.size A D num o c ws wr) (fun i _ => 4 - (intOf i).toNat)
  case atStart => exact ⟨0, Nat.zero_le _, rfl, hT⟩
  case round =>
    clear hT
    obtain ⟨j, hj, rfl, hT⟩ := hrel
    by_cases hlt : j < 4
    · go_upto_region 10 with (go_at_call 11; (with_reducible refine (N8.out _ hT.hd).mono ?_); rintro e w5 ⟨⟨r, hr8, rfl⟩, hg5, hd5⟩)
      have hT5 := hT.dice hg5 hd5
      have hDC := hT5.lt
      obtain ⟨C, hC⟩ : ∃ C, C = w5.heap.size := ⟨_, rfl⟩
      rw [← hC] at hDC
      have hC5 : C ≤ w5.heap.size := by omega
      clear hC hT hg5 hd5
      go_loopw [8, 29] (fun s i wr => ∃ (t : Nat) (zs : List Int) (vo : Option Addr) (vc : Nat), t ≤ r ∧ i = .int .i64 t ∧ zs.length = t ∧ s = .slice vo t vc ∧ wr.ownsRow C 3 1 (.slice vo t vc) t (intsV zs) ∧ Thr w w.heap.size w.heap.size A D num o c ws wr ∧ C ≤ wr.heap.size) (fun _ i _ => r - (intOf i).toNat)
      case atStart => exact ⟨0, [], none, 0, Nat.zero_le _, rfl, rfl, rfl, World.ownsRow_nil _ _ _ _, hT5, hC5⟩
      case round =>
        clear hT5 hC5
        obtain ⟨t, z, vo, vc, ht, rfl, hzl, rfl, hO, hT, hCr⟩ := hrel
        by_cases hlt2 : t < r
        · have HO := Lib.hid hO
          have HT := Lib.hid hT
          have hTl := hT.lt
          have hgA := hT.gA
          have hAD := hT.AD
          have hBg := hT.Bg
          clear hO hT
          go_wp2_with (first
            | (go_at_call 11; (with_reducible refine (NM.out _ HT.out.hd).mono ?_); rintro e w6 ⟨⟨k, hk, rfl⟩, hg6, hd6⟩; have HT6 := Lib.hid (HT.out.dice hg6 hd6); have HO6 := Lib.hid (owns_grown HO.out hg6 (by omega)); have hs6 := hg6.size)
            | (at_builtin; refine wpList_append_own _ rfl (.tmp 31) (.tmp 36) 22 rfl C 3 i0 (.int .i64 0) 1 8 Try.underlying22 HI.out.1 HI.out.2.1 HI.out.2.2.1 HI.out.2.2.2 rfl (by decide) _ t _ rfl (HO6.out.alloc _) ⟨w6.heap.size, 0, none⟩ 1 1 [.int .i64 k] rfl rfl (cells_new _ _ _ _ rfl) (by intro u hu; simp at hu; subst hu; rfl) (by unfold maxLen; omega) (by omega) (by simp; omega) ?_; intro v2 w7 hO2 hg2 _))
          obtain ⟨a2, c2, rfl, -, -⟩ := own_form2 hO2
          have hT7 := (HT6.out.alloc (.cells #[.int .i64 k] 3)).own hDC (HO6.out.alloc _) hg2
          have hs7 : C ≤ w7.heap.size := by have h1 := hg2.size; have h2 : (w6.alloc (.cells #[.int .i64 k] 3)).heap.size = w6.heap.size + 1 := by simp
                                            omega
          have hcl2 : intsV z ++ [.int .i64 k] = intsV (z ++ [(k : Int)]) := by simp [intsV]
          rw [hcl2] at hO2
          clear hg2 hg6 hd6
          go_wp2
          exact ⟨⟨t + 1, z ++ [(k : Int)], a2, c2, by omega, by go_num, by simp [hzl], rfl, hO2, hT7, hs7⟩, by simp [intOf]; omega⟩
        · obtain rfl : t = r := by omega
          subst hzl
          have hz := ints_of_own hO
          have hz8 : z.length ≤ 1000 := by omega
          have c0 := hT.c0
          have c1 := hT.c1
          go_upto_region 13 with fail
          refine wp_region_plan (fun w' => w'.cell? ⟨D, 0, none⟩ = some (.int .i64 num) ∧ w'.cell? ⟨D, 1, none⟩ = some (.slice o ws.length c)) [0, 3] (.take 0 (.take 1 (.take 3 (.take 4 (.ask 2 true (.ask 5 false (.take 6 .stop) .stop) .stop))))) (by kernel_rfl) (by kernel_rfl) (fun _ d _ _ _ h => by cases d <;> exact h) ⟨c0, c1⟩ ?_
          have hTd := hT.drew
          have hzd : IntsAt wr.drew.heap.size wr.drew (.slice vo z.length vc) z := hz
          clear c0 c1 hT hz
          generalize wr.drew = wd at hTd hzd ⊢
          refine take_held _ ?_ rfl rfl (by decide) ?_ (fun K hK => ?_); rotate_left; (intro w0 hw0; go_simp; (try rfl)); (go_simp; refine hK _ ?_; clear hK K)
          refine take_any _ ?_ rfl rfl ?_ (fun K hK => ?_); rotate_left; (intro w0; go_simp; (try rfl)); (go_simp; refine hK _ ?_; clear hK K)
          refine take_held _ ?_ rfl rfl (by decide) ?_ (fun K hK => ?_); rotate_left; (intro w0 hw0; go_simp; (try rfl)); (go_simp; refine hK _ ?_; clear hK K)
          refine take_any _ ?_ rfl rfl ?_ (fun K hK => ?_); rotate_left; (intro w0; go_simp; (try rfl)); (go_simp; refine hK _ ?_; clear hK K)
          have EP := Lib.hid (ENP.out wd _ z hTd hzd hz8)
          have ER := Lib.hid (fun (wx : World) (h : Below wd.heap.size wd wx) => ENR.out wx _ z (hTd.below h) ((hzd.below h (Nat.le_refl _)).grow h.size) hz8)
          generalize enB num ws (inS z) = q at EP ER
          have HTd := Lib.hid hTd
          clear hTd hzd
          refine ask_step _ rfl trivial ?_; go_wp2_with (go_at_call 21; (with_reducible refine EP.out.mono ?_); rintro e w8 ⟨rfl, hb8⟩); refine Seg.mk ⟨⟨(HTd.out.below hb8).c0, (HTd.out.below hb8).c1⟩, ?_⟩
          refine ask_late _ rfl trivial ?_; go_wp2_with (go_at_call 22; (with_reducible refine (ER.out _ hb8).mono ?_); rintro e w9 ⟨rfl, hb9⟩); refine Seg.mk ?_
          have hT9 := HTd.out.below (hb8.trans (hb9.mono hb8.size))
          have qn := same_boolN q
          have qy := same_boolY q
          refine take_any _ ?_ rfl rfl ?_ (fun K hK => ?_); rotate_left; (intro w0; go_simp; (try rfl)); (go_simp; refine hK _ ?_; clear hK K)
          unfold wpPlan
          go_wp2
          go_roundw
          case rel => exact ⟨j + 1, by omega, by go_num, hT9⟩
          case measure => simp [intOf]; omega
    · obtain rfl : j = 4 := by omega
      have hz : IntsAt wr.heap.size wr (.slice ra rz.length rcap) rz := by
        have h1 := (HRA.out.below hT.hb (Nat.le_refl _)).grow hT.hb.size
        rw [hrl]; exact h1
      have hz8 : rz.length ≤ 1000 := by omega
      have c0 := hT.c0
      have c1 := hT.c1
      rw [← hrl]
      clear hrl
      go_upto_region 16 with fail
      refine wp_region_plan (fun w' => w'.cell? ⟨D, 0, none⟩ = some (.int .i64 num) ∧ w'.cell? ⟨D, 1, none⟩ = some (.slice o ws.length c)) [0, 3] (.take 0 (.take 1 (.take 3 (.take 4 (.ask 2 true (.ask 5 false (.take 6 (.take 7 (.ask 8 false (.take 9 (.take 10 .stop)) .stop))) .stop) .stop))))) (by kernel_rfl) (by kernel_rfl) (fun _ d _ _ _ h => by cases d <;> exact h) ⟨c0, c1⟩ ?_
      have hTd := hT.drew
      have hzd : IntsAt wr.drew.heap.size wr.drew (.slice ra rz.length rcap) rz := hz
      clear c0 c1 hT hz
      generalize wr.drew = wd at hTd hzd ⊢
      refine take_held _ ?_ rfl rfl (by decide) ?_ (fun K hK => ?_); rotate_left; (intro w0 hw0; go_simp; (try rfl)); (go_simp; refine hK _ ?_; clear hK K)
      refine take_any _ ?_ rfl rfl ?_ (fun K hK => ?_); rotate_left; (intro w0; go_simp; (try rfl)); (go_simp; refine hK _ ?_; clear hK K)
      refine take_held _ ?_ rfl rfl (by decide) ?_ (fun K hK => ?_); rotate_left; (intro w0 hw0; go_simp; (try rfl)); (go_simp; refine hK _ ?_; clear hK K)
      refine take_any _ ?_ rfl rfl ?_ (fun K hK => ?_); rotate_left; (intro w0; go_simp; (try rfl)); (go_simp; refine hK _ ?_; clear hK K)
      have EP := Lib.hid (ENP.out wd _ rz hTd hzd hz8)
      have ER := Lib.hid (fun (wx : World) (h : Below wd.heap.size wd wx) => ENR.out wx _ rz (hTd.below h) ((hzd.below h (Nat.le_refl _)).grow h.size) hz8)
      generalize enB num ws (inS rz) = q at EP ER
      have HTd := Lib.hid hTd
      clear hTd hzd
      refine ask_step _ rfl trivial ?_; go_wp2_with (go_at_call 21; (with_reducible refine EP.out.mono ?_); rintro e w8 ⟨rfl, hb8⟩); refine Seg.mk ⟨⟨(HTd.out.below hb8).c0, (HTd.out.below hb8).c1⟩, ?_⟩
      refine ask_late _ rfl trivial ?_; go_wp2_with (go_at_call 22; (with_reducible refine (ER.out _ hb8).mono ?_); rintro e w9 ⟨rfl, hb9⟩); refine Seg.mk ?_
      have hT9 := HTd.out.below (hb8.trans (hb9.mono hb8.size))
      have qn := same_boolN q
      have qy := same_boolY q
      refine take_any _ ?_ rfl rfl ?_ (fun K hK => ?_); rotate_left; (intro w0; go_simp; (try rfl)); (go_simp; refine hK _ ?_; clear hK K)
      refine take_any _ ?_ rfl rfl ?_ (fun K hK => ?_); rotate_left; (intro w0; go_simp; (try rfl)); (go_simp; refine hK _ ?_; clear hK K)
      refine ask_late _ rfl trivial ?_; go_wp2_with (go_at_call 9; (with_reducible refine (AW.out _).mono ?_); rintro e wz ⟨rfl, hbz⟩); refine Seg.mk ?_
      refine take_any _ ?_ rfl rfl ?_ (fun K hK => ?_); rotate_left; (intro w0; go_simp; (try rfl)); (go_simp; refine hK _ ?_; clear hK K)
      refine take_any _ ?_ rfl rfl ?_ (fun K hK => ?_); rotate_left; (intro w0; go_simp; (try rfl)); (go_simp; refine hK _ ?_; clear hK K)
      unfold wpPlan
      go_wp2
      go_ret
      exact ⟨rfl, (hT9.below hbz).hb⟩
end Go.Proofs.Ytefhhfpdponabaa
