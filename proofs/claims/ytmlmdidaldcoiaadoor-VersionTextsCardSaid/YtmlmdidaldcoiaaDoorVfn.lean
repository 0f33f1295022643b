/- The walk of the statement VersionFinds. -/
import Derived.Test.YtmlmdidaldcoiaaDoorVpl
namespace Go.Proofs.YtmlmdidaldcoiaaDoor
open Go Go.Maps Go.ChangeShapes Go.WideShapes Go.ChangeAt Go.RowKit
set_option linter.unusedVariables false
set_option linter.unusedSimpArgs false

theorem vt_size (v : VD) : (vtS v).size ≤ 17 := by
  cases h : validV v with
  | false => rw [(vt_bad h).1]; exact Nat.zero_le _
  | true => rw [(vt_text h).2.2.2]; exact Nat.le_refl _
/-- The strings lie in block gs. -/
structure FdW (w wr : World) (gs : Nat) (ns : List ByteArray) : Prop where
  s : wr.heap[gs]? = some (.cells (ns.map Value.string).toArray 9 (0, 0))
  b : Below w.heap.size w wr
theorem FdW.step {w wr wn : World} {gs : Nat} {ns : List ByteArray} (h : FdW w wr gs ns) (hb : Below wr.heap.size wr wn) : FdW w wn gs ns := ⟨(hb.block _ (lt_of_block h.s)).trans h.s, h.b.trans (hb.mono h.b.size)⟩
set_option maxHeartbeats 12800000 in
set_option maxRecDepth 100000 in
theorem finds9_walk (a : Option Addr) (len cap : Nat) (zs : List Int) (sb sc : ByteArray) (w : World) (hn : NumsB w.heap.size w a len cap zs) (hT : DB w) (hE : VErr w) :
    Calls Tryd.prog 4 #[.slice a len cap, .string sb, .string sc] w fun e w' => e = .returned (.bool true) ∧ Below w.heap.size w w' := by
  have AW := Lib.hid (fun (wx : World) (hb : Below w.heap.size w wx) => awake9_any wx (hT.below hb))
  have LI := Lib.hid (fun wx : World => light_any a len cap wx)
  have HT := Lib.hid hT
  have HE := Lib.hid hE
  have RO := Lib.hid (roll_any a len cap zs w hn)
  clear hn hT hE
  by_cases hall : (len : Int) ≤ 500 ∧ sb.size ≤ 60 ∧ sc.size ≤ 100
  · obtain ⟨h500, hsb, hsc⟩ := hall
    rw [decide_eq_true h500] at LI
    have gg1 : ¬ (60 : Int) < (sb.size : Int) := by omega
    have gg2 : ¬ (100 : Int) < (sc.size : Int) := by omega
    clear h500
    go_enter Tryd.func4, Tryd.ntmps4
    go_upto_region 4 with (first
      | (go_at_call 7; (with_reducible refine (LI.out _).mono ?_); rintro e w3 ⟨rfl, rfl⟩)
      | (go_at_call 10; (with_reducible refine (RO.out).mono ?_); rintro e w2 ⟨rfl, hb2, hd2⟩; (have hg2 := hd2.lt)))
    have RT : Hid (∀ (v : VD) (wx : World), Calls Tryd.prog 12 #[.agg #[.string v.p, .int .i64 v.a, .int .i64 v.b, .int .i64 v.f, .int .i64 v.z]] wx (RxPostV v wx)) := Lib.hid fun v wx => rvtext_any v wx
    unfold RxPostV at RT
    go_upto_region 5 with (first
      | (go_at_call 9; (with_reducible refine (some_any w.heap.size w.heap.size _ hd2).mono ?_); rintro e w4 ⟨⟨V, hV, hp5, rfl⟩, hg4, hd4⟩; unfold vcs)
      | (go_at_call 12; (with_reducible refine (RT.out V _).mono ?_); rintro e w5 ⟨rfl, hb5⟩))
    have hB4 : Below w.heap.size w w4 := hb2.grown hg4 hb2.size (fun k hk => by cases hk; exact Nat.le_refl _)
    have hd5 := hd4.go hb5
    have hB5 := hB4.trans (hb5.mono hB4.size)
    go_upto_region 6 with (first
      | (go_at_call 9; (with_reducible refine (some_any w.heap.size w.heap.size _ hd5).mono ?_); rintro e w6 ⟨⟨U, hU, hq5, rfl⟩, hg6, hd6⟩; unfold vcs)
      | (go_at_call 12; (with_reducible refine (RT.out U _).mono ?_); rintro e w7 ⟨rfl, hb7⟩))
    have hB6 : Below w.heap.size w w6 := hB5.grown hg6 hB5.size (fun k hk => by cases hk; exact Nat.le_refl _)
    have HB7 := Lib.hid (hB6.trans (hb7.mono hB6.size))
    have hs1 := vt_size V
    have hs2 := vt_size U
    generalize vtS V = S1 at hs1 ⊢
    generalize vtS U = S2 at hs2 ⊢
    clear hb2 hd2 hg2 hg4 hd4 hB4 hd5 hB5 hb5 hg6 hd6 hB6 hb7 RT RO LI hV hU hp5 hq5
    obtain ⟨mb, hmb⟩ : ∃ mb : Nat, min (sb.size : Int) 24 = (mb : Int) := ⟨(min (sb.size : Int) 24).toNat, by omega⟩
    obtain ⟨mg, hmg⟩ : ∃ mg : Nat, min (S1.size : Int) 16 = (mg : Int) := ⟨(min (S1.size : Int) 16).toNat, by omega⟩
    have i1 : (mb : Int) ≤ (sb.size : Int) := by omega
    have i2 : (mg : Int) ≤ (S1.size : Int) := by omega
    have i3 : (0 : Int) ≤ (mb : Int) := by omega
    have i4 : (0 : Int) ≤ (mg : Int) := by omega
    obtain ⟨b2, hb2⟩ : ∃ b2, sb.extract 0 mb = b2 := ⟨_, rfl⟩
    obtain ⟨g2, hgt2⟩ : ∃ g2, S1.extract 0 mg = g2 := ⟨_, rfl⟩
    obtain ⟨x1, hx1⟩ : ∃ x, sb ++ S1 = x := ⟨_, rfl⟩
    obtain ⟨x2, hx2⟩ : ∃ x, x1 ++ sc = x := ⟨_, rfl⟩
    obtain ⟨x3, hx3⟩ : ∃ x, S1 ++ S2 = x := ⟨_, rfl⟩
    obtain ⟨x4, hx4⟩ : ∃ x, b2 ++ S1 = x := ⟨_, rfl⟩
    obtain ⟨x5, hx5⟩ : ∃ x, (⟨#[120]⟩ : ByteArray) ++ g2 = x := ⟨_, rfl⟩
    obtain ⟨x6, hx6⟩ : ∃ x, x5 ++ S2 = x := ⟨_, rfl⟩
    have zb2 : b2.size ≤ 24 := by rw [← hb2, ByteArray.size_extract]; omega
    have zg2 : g2.size ≤ 16 := by rw [← hgt2, ByteArray.size_extract]; omega
    have zx1 : x1.size ≤ 77 := by rw [← hx1, ByteArray.size_append]; omega
    have zx2 : x2.size ≤ 177 := by rw [← hx2, ByteArray.size_append]; omega
    have zx3 : x3.size ≤ 34 := by rw [← hx3, ByteArray.size_append]; omega
    have zx4 : x4.size ≤ 41 := by rw [← hx4, ByteArray.size_append]; omega
    have zx5 : x5.size ≤ 17 := by rw [← hx5, ByteArray.size_append]; show 1 + _ ≤ _; omega
    have zx6 : x6.size ≤ 34 := by rw [← hx6, ByteArray.size_append]; omega
    have l1 : ¬ 9223372036854775807 < sb.size + S1.size := by omega
    have l2 : ¬ 9223372036854775807 < x1.size + sc.size := by omega
    have l3 : ¬ 9223372036854775807 < S1.size + S2.size := by omega
    have l4 : ¬ 9223372036854775807 < b2.size + S1.size := by omega
    have l5 : ¬ 9223372036854775807 < 1 + g2.size := by omega
    have l6 : ¬ 9223372036854775807 < x5.size + S2.size := by omega
    have HZ := Lib.hid (show ∀ s, s ∈ [x2, x3, sb, x4, x6] → s.size ≤ 1000000 by
      intro s hs
      simp only [List.mem_cons, List.not_mem_nil, or_false] at hs
      rcases hs with rfl | rfl | rfl | rfl | rfl <;> omega)
    clear zb2 zg2 zx1 zx2 zx3 zx4 zx5 zx6 hs1 hs2 hsb hsc gg1 gg2
    refine wp_region_plan (fun _ => True) [11, 18] (.take 0 (.take 1 (.take 2 (.take 3 (.take 4 (.take 5 (.take 6 (.take 7 (.take 8 (.take 9 (.take 10 (.take 11 (.take 14 (.take 16 (.take 17 (.take 18 (.take 22 (.take 26 (Plan.join true (.ask 12 true (.take 13 (.take 15 (.ask 19 true (.take 20 (.take 21 (.take 23 .stop))) .stop))) (.ask 19 true (.take 20 (.take 21 (.take 23 (.ask 12 true (.take 13 (.take 15 .stop)) .stop)))) .stop)) (.ask 24 false (.ask 25 false .stop .stop) .stop)))))))))))))))))))) (by kernel_rfl) (by kernel_rfl) (fun _ d _ _ _ h => by cases d <;> exact h) trivial ?_
    have HB8 := Lib.hid (HB7.out.trans (((Below.refl w7.heap.size w7).drew).mono HB7.out.size))
    generalize w7.drew = w8 at HB8 ⊢
    clear HB7
    refine take_any _ ?_ rfl rfl ?_ (fun K hK => ?_); rotate_left; (intro w0; go_simp; (try rfl)); (go_simp; refine hK _ ?_; clear hK K)
    refine take_any _ ?_ rfl rfl ?_ (fun K hK => ?_); rotate_left; (intro w0; go_simp; (try rfl)); (go_simp; refine hK _ ?_; clear hK K)
    refine take_any _ ?_ rfl rfl ?_ (fun K hK => ?_); rotate_left; (intro w0; go_simp; (try rfl)); (go_simp; refine hK _ ?_; clear hK K)
    refine take_any _ ?_ rfl rfl ?_ (fun K hK => ?_); rotate_left; (intro w0; go_simp; (try rfl)); (go_simp; refine hK _ ?_; clear hK K)
    refine take_any _ ?_ rfl rfl ?_ (fun K hK => ?_); rotate_left; (intro w0; go_simp; (try rfl)); (go_simp; refine hK _ ?_; clear hK K)
    refine take_any _ ?_ rfl rfl ?_ (fun K hK => ?_); rotate_left; (intro w0; go_simp; (try rfl)); (go_simp; refine hK _ ?_; clear hK K)
    refine take_any _ ?_ rfl rfl ?_ (fun K hK => ?_); rotate_left; (intro w0; go_simp; (try rfl)); (go_simp; refine hK _ ?_; clear hK K)
    refine take_any _ ?_ rfl rfl ?_ (fun K hK => ?_); rotate_left; (intro w0; go_simp; (try rfl)); (go_simp; refine hK _ ?_; clear hK K)
    refine take_any _ ?_ rfl rfl ?_ (fun K hK => ?_); rotate_left; (intro w0; go_simp; (try rfl)); (go_simp; refine hK _ ?_; clear hK K)
    refine take_any _ ?_ rfl rfl ?_ (fun K hK => ?_); rotate_left; (intro w0; go_simp; (try rfl)); (go_simp; refine hK _ ?_; clear hK K)
    refine take_any _ ?_ rfl rfl ?_ (fun K hK => ?_); rotate_left; (intro w0; go_simp; (try rfl)); (go_simp; refine hK _ ?_; clear hK K)
    refine take_held _ ?_ rfl rfl (by decide) ?_ (fun K hK => ?_); rotate_left; (intro w0 hw0; go_simp; (try rfl)); (go_simp; refine hK _ ?_; clear hK K)
    refine take_any _ ?_ rfl rfl ?_ (fun K hK => ?_); rotate_left; (intro w0; go_simp; (try rfl)); (go_simp; refine hK _ ?_; clear hK K)
    refine take_any _ ?_ rfl rfl ?_ (fun K hK => ?_); rotate_left; (intro w0; go_simp; (try rfl)); (go_simp; refine hK _ ?_; clear hK K)
    refine take_any _ ?_ rfl rfl ?_ (fun K hK => ?_); rotate_left; (intro w0; go_simp; (try rfl)); (go_simp; refine hK _ ?_; clear hK K)
    refine take_held _ ?_ rfl rfl (by decide) ?_ (fun K hK => ?_); rotate_left; (intro w0 hw0; go_simp; (try rfl)); (go_simp; refine hK _ ?_; clear hK K)
    refine take_any _ ?_ rfl rfl ?_ (fun K hK => ?_); rotate_left; (intro w0; go_simp; (try rfl)); (go_simp; refine hK _ ?_; clear hK K)
    refine take_any _ ?_ rfl rfl ?_ (fun K hK => ?_); rotate_left; (intro w0; go_simp; (try rfl)); (go_simp; refine hK _ ?_; clear hK K)
    refine plan_cut [60, 61, 63, 67, 68, 69, 71] (fun vs wx => vs = [.int .i64 (mb : Int), .string b2, .string x4, .int .i64 (mg : Int), .string g2, .string x5, .string x6] ∧ wx = w8) ?_ ?_
    rotate_left
    · rintro vs wx ⟨rfl, rfl⟩
      simp only [puts, Act.put, List.setIfInBounds_toArray, List.set_cons_zero, List.set_cons_succ]
      clear hmb hmg i1 i2 i3 i4 hb2 hgt2 hx1 hx2 hx3 hx4 hx5 hx6 l1 l2 l3 l4 l5 l6
      refine ask_late _ rfl trivial ?_
      go_wp2_with fail
      refine Seg.mk ?_
      have b9 := (Below.refl wx.heap.size wx).alloc (o := .cells #[.string x2, .string x3, .string sb, .string x4, .string x6] 9) (Nat.le_refl _)
      have HF0 : Hid (FdW w (wx.alloc (.cells #[.string x2, .string x3, .string sb, .string x4, .string x6] 9)) wx.heap.size [x2, x3, sb, x4, x6]) := Lib.hid ⟨heap_alloc_new _ _, HB8.out.trans (b9.mono HB8.out.size)⟩
      clear b9 HB8
      generalize wx.alloc _ = w9 at HF0 ⊢
      generalize wx.heap.size = gs at HF0 ⊢
      refine ask_last _ rfl trivial ?_
      go_upto_region 7 with fail
      obtain ⟨ns, hns⟩ : ∃ ns, ns = [x2, x3, sb, x4, x6] := ⟨_, rfl⟩
      have hn5 : ns.length = 5 := by rw [hns]; rfl
      rw [← hns] at HF0 HZ
      have HN5 := Lib.hid hn5
      clear hns hn5
      go_loopw [13, 14, 15, 16, 17, 18, 19, 74] (fun _ _ _ _ _ _ _ vc wr => ∃ k : Nat, vc = .int .i64 (k : Int) ∧ k ≤ 5 ∧ FdW w wr gs ns) (fun _ _ _ _ _ _ _ vc _ => 5 - (intOf vc).toNat)
      case atStart => exact ⟨0, rfl, by decide, HF0.out⟩
      case round =>
        obtain ⟨k, rfl, hk5, hF⟩ := hrel
        clear HF0
        by_cases hk : k < 5
        · have hkl : k < ns.length := by rw [HN5.out]; exact hk
          have hcell := vcells_lits ns hF.s rfl k ns[k] (List.getElem?_eq_getElem hkl)
          have hsz := HZ.out ns[k] (List.getElem_mem hkl)
          generalize ns[k] = s at hcell hsz
          have hkI : (k : Int) < 5 := by omega
          have hk0 : (0 : Int) ≤ (k : Int) := by omega
          have P1 : Hid (Calls Tryd.prog 18 #[.string s] wr (FiPost s wr)) := Lib.hid (vfind_any s wr hsz (HT.out.below hF.b) (HE.out.below hF.b))
          have P2 : Hid (∀ wx : World, Calls Tryd.prog 19 #[.string s] wx (FiPost s wx)) := Lib.hid fun wx => rvfind_any s wx hsz
          unfold FiPost at P1 P2
          generalize fdV s.data.toList = Y at P1 P2
          generalize fdP s.data.toList = P at P1 P2
          generalize fdE s.data.toList = E at P1 P2
          unfold vcs at P1 P2
          have HF := Lib.hid hF
          clear hF hsz hkl
          go_upto_region 10 with (go_at_call 18; (with_reducible refine (P1.out).mono ?_); rintro e w10 ⟨rfl, hb10⟩)
          have b11 := (Below.refl w10.heap.size w10).alloc (o := .cells #[.string Y.p, .int .i64 Y.a, .int .i64 Y.b, .int .i64 Y.f, .int .i64 Y.z] 24) (Nat.le_refl _)
          have k11 := heap_alloc_new w10 (.cells #[.string Y.p, .int .i64 Y.a, .int .i64 Y.b, .int .i64 Y.f, .int .i64 Y.z] 24)
          have HF11 := Lib.hid ((HF.out.step hb10).step b11)
          generalize w10.alloc _ = w11 at k11 HF11 ⊢
          generalize w10.heap.size = g11 at k11 ⊢
          have HK11 := Lib.hid k11
          clear hb10 b11 k11 HF hcell P1
          go_upto_region 11 with (go_at_call 19; (with_reducible refine (P2.out _).mono ?_); rintro e w12 ⟨rfl, hb12⟩)
          have k12 := (hb12.block _ (lt_of_block HK11.out)).trans HK11.out
          have b13 := (Below.refl w12.heap.size w12).alloc (o := .cells #[.string Y.p, .int .i64 Y.a, .int .i64 Y.b, .int .i64 Y.f, .int .i64 Y.z] 24) (Nat.le_refl _)
          have k13 := heap_alloc_new w12 (.cells #[.string Y.p, .int .i64 Y.a, .int .i64 Y.b, .int .i64 Y.f, .int .i64 Y.z] 24)
          have x13 := five_of ((b13.block _ (lt_of_block k12)).trans k12)
          have HF13 := Lib.hid ((HF11.out.step hb12).step b13)
          generalize w12.alloc _ = w13 at k13 x13 HF13 ⊢
          generalize w12.heap.size = g13 at k13 ⊢
          have y13 := five_of k13
          have VE := fun wx => vers_neq wx Y.p Y.a Y.b Y.f Y.z
          have VG := fun wx op x y => vers_guard wx op x y #[.string Y.p, .int .i64 Y.a, .int .i64 Y.b, .int .i64 Y.f, .int .i64 Y.z] #[.string Y.p, .int .i64 Y.a, .int .i64 Y.b, .int .i64 Y.f, .int .i64 Y.z]
          clear hb12 k12 b13 k13 P2 HF11 HK11
          go_wp2
          go_roundw
          case rel => exact ⟨k + 1, by go_num, by omega, HF13.out⟩
          case measure => simp [intOf]; omega
        · obtain rfl : k = 5 := by omega
          have HF := Lib.hid hF
          clear hF
          go_wp2_with (go_at_call 8; (with_reducible refine (AW.out _ HF.out.b).mono ?_); rintro e w13 ⟨rfl, hb13⟩)
          go_ret
          exact ⟨rfl, HF.out.b.trans (hb13.mono HF.out.b.size)⟩
    · refine ask_step _ rfl ?_ ?_
      · refine ask_step _ rfl trivial ?_
        go_wp2_with fail
        refine Seg.mk ⟨trivial, ?_⟩
        refine take_any _ ?_ rfl rfl ?_ (fun K hK => ?_); rotate_left; (intro w0; go_simp; (try rfl)); (go_simp; refine hK _ ?_; clear hK K)
        refine take_any _ ?_ rfl rfl ?_ (fun K hK => ?_); rotate_left; (intro w0; go_simp; (try rfl)); (go_simp; refine hK _ ?_; clear hK K)
        refine take_any _ ?_ rfl rfl ?_ (fun K hK => ?_); rotate_left; (intro w0; go_simp; (try rfl)); (go_simp; refine hK _ ?_; clear hK K)
        refine ask_step _ rfl trivial ?_
        go_wp2_with fail
        refine Seg.mk ⟨trivial, ?_⟩
        refine take_any _ ?_ rfl rfl ?_ (fun K hK => ?_); rotate_left; (intro w0; go_simp; (try rfl)); (go_simp; refine hK _ ?_; clear hK K)
        refine take_any _ ?_ rfl rfl ?_ (fun K hK => ?_); rotate_left; (intro w0; go_simp; (try rfl)); (go_simp; refine hK _ ?_; clear hK K)
        exact plan_meet [.int .i64 (mb : Int), .string b2, .string x4, .int .i64 (mg : Int), .string g2, .string x5, .string x6] ⟨rfl, rfl⟩ (by simp only [puts, Act.put, List.setIfInBounds_toArray, List.set_cons_zero, List.set_cons_succ])
      · go_wp2_with fail
        refine Seg.mk ⟨trivial, ?_⟩
        refine take_any _ ?_ rfl rfl ?_ (fun K hK => ?_); rotate_left; (intro w0; go_simp; (try rfl)); (go_simp; refine hK _ ?_; clear hK K)
        refine take_any _ ?_ rfl rfl ?_ (fun K hK => ?_); rotate_left; (intro w0; go_simp; (try rfl)); (go_simp; refine hK _ ?_; clear hK K)
        refine ask_step _ rfl trivial ?_
        go_wp2_with fail
        refine Seg.mk ⟨trivial, ?_⟩
        refine take_any _ ?_ rfl rfl ?_ (fun K hK => ?_); rotate_left; (intro w0; go_simp; (try rfl)); (go_simp; refine hK _ ?_; clear hK K)
        refine take_any _ ?_ rfl rfl ?_ (fun K hK => ?_); rotate_left; (intro w0; go_simp; (try rfl)); (go_simp; refine hK _ ?_; clear hK K)
        refine take_any _ ?_ rfl rfl ?_ (fun K hK => ?_); rotate_left; (intro w0; go_simp; (try rfl)); (go_simp; refine hK _ ?_; clear hK K)
        exact plan_meet [.int .i64 (mb : Int), .string b2, .string x4, .int .i64 (mg : Int), .string g2, .string x5, .string x6] ⟨rfl, rfl⟩ (by simp only [puts, Act.put, List.setIfInBounds_toArray, List.set_cons_zero, List.set_cons_succ])
  · go_enter Tryd.func4, Tryd.ntmps4
    by_cases h500 : (len : Int) ≤ 500
    · rw [decide_eq_true h500] at LI
      by_cases hsb : (60 : Int) < (sb.size : Int)
      · clear hall h500
        go_wp2_with (first
          | (go_at_call 7; (with_reducible refine (LI.out _).mono ?_); rintro e w3 ⟨rfl, rfl⟩)
          | (go_at_call 8; (with_reducible refine (AW.out _ (Below.refl _ _)).mono ?_); rintro e w1 ⟨rfl, hb⟩))
        go_ret
        exact ⟨rfl, hb⟩
      · have hsc : (100 : Int) < (sc.size : Int) := by omega
        clear hall h500
        go_wp2_with (first
          | (go_at_call 7; (with_reducible refine (LI.out _).mono ?_); rintro e w3 ⟨rfl, rfl⟩)
          | (go_at_call 8; (with_reducible refine (AW.out _ (Below.refl _ _)).mono ?_); rintro e w1 ⟨rfl, hb⟩))
        go_ret
        exact ⟨rfl, hb⟩
    · rw [decide_eq_false h500] at LI
      clear hall h500
      go_wp2_with (first
        | (go_at_call 7; (with_reducible refine (LI.out _).mono ?_); rintro e w3 ⟨rfl, rfl⟩)
        | (go_at_call 8; (with_reducible refine (AW.out _ (Below.refl _ _)).mono ?_); rintro e w1 ⟨rfl, hb⟩))
      go_ret
      exact ⟨rfl, hb⟩
end Go.Proofs.YtmlmdidaldcoiaaDoor
