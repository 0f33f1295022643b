/- The walk of the statement NodeCopies. -/
import Derived.Test.YthcgkkafbobfoaaDoorNlike
import Derived.Test.YthcgkkafbobfoaaDoorNrc
namespace Go.Proofs.YthcgkkafbobfoaaDoor
open Go Go.ChangeShapes Go.WideShapes Go.ChangeAt Go.RowKit
set_option linter.unusedVariables false
set_option linter.unusedSimpArgs false

def sOther : ByteArray := { data := #[111, 116, 104, 101, 114] }
theorem other_ok : textOk sOther = true ∧ sOther.size ≤ 65536 := by
  have : (textOk sOther && decide (sOther.size ≤ 65536)) = true := by decide +kernel
  simp only [Bool.and_eq_true, decide_eq_true_eq] at this
  exact this
theorem three_valid : validN 7 (num 3) = true := by decide +kernel
/-- The blocks of what Put has handed out. -/
def XB (P gb : Nat) (w : World) (b : Nat) : Prop := b ≠ gb ∧ P ≤ b ∧ b < w.heap.size ∧ PlainB w b
set_option maxHeartbeats 3200000 in
set_option maxRecDepth 100000 in
theorem copies_walk (a : Option Addr) (len cap : Nat) (zs : List Int) (w : World) (hn : NumsB w.heap.size w a len cap zs) (hT : Utab w) :
    Calls Tryd.prog 6 #[.slice a len cap] w fun e w' => e = .returned (.bool true) ∧ Below w.heap.size w w' := by
  have AW := Lib.hid (fun (wx : World) (hb : Below w.heap.size w wx) => awake5_any wx (hT.below hb))
  have LI := Lib.hid (fun wx : World => light_any a len cap wx)
  have RO := Lib.hid (roll_any a len cap zs w hn)
  have HT := Lib.hid hT
  clear hn hT
  have hB := Below.refl w.heap.size w
  by_cases h500 : (len : Int) ≤ 500
  · rw [decide_eq_true h500] at LI
    clear h500 hB
    go_enter Tryd.func6, Tryd.ntmps6
    go_upto_region 5 with (first
      | (go_at_call 10; (with_reducible refine (LI.out _).mono ?_); rintro e w3 ⟨rfl, rfl⟩)
      | (go_at_call 11; (with_reducible refine (RO.out).mono ?_); rintro e w1 ⟨rfl, hb1, hd1⟩)
      | (go_at_call 12; (with_reducible refine (kmap_lit w.heap.size w.heap.size 3 3 rfl (by decide) (by decide) _ hd1).mono ?_); rintro e w2 ⟨⟨cm, m, rfl, hm, hmo, hm3⟩, hg2, hd2⟩; obtain ⟨a1, l1, c1, a2, l2, c2, rfl⟩ : ∃ a1 l1 c1 a2 l2 c2, cm = [.int .i64 5, .bool false, .int .i64 0, .string ⟨#[]⟩, .slice a1 l1 c1, .slice a2 l2 c2] := (by have := hm.slices; rw [hmo.kind, hmo.bool, hmo.num, hmo.text] at this; exact this)))
    have B2 : Below w.heap.size w w2 := gbelow hb1 hg2 hb1.size (Nat.le_refl _)
    have k3 := heap_alloc_new w2 (.cells #[.int .i64 5, .bool false, .int .i64 0, .string ⟨#[]⟩, .slice a1 l1 c1, .slice a2 l2 c2] 26)
    have b3 := (Below.refl w2.heap.size w2).alloc (o := .cells #[.int .i64 5, .bool false, .int .i64 0, .string ⟨#[]⟩, .slice a1 l1 c1, .slice a2 l2 c2] 26) (Nat.le_refl _)
    generalize w2.alloc (.cells #[.int .i64 5, .bool false, .int .i64 0, .string ⟨#[]⟩, .slice a1 l1 c1, .slice a2 l2 c2] 26) = w3 at k3 b3 ⊢
    have hM3 : Hel 26 3 w3 w2.heap.size [.int .i64 5, .bool false, .int .i64 0, .string ⟨#[]⟩, .slice a1 l1 c1, .slice a2 l2 c2] m := ⟨k3, (hm.same fun b hb => b3.block b hb.2).mono fun b hb => Nat.lt_of_lt_of_le hb.2 b3.size⟩
    have B3 : Below w.heap.size w w3 := B2.trans (b3.mono B2.size)
    have hm7 : MapOk 7 m := hmo.mono (by decide)
    have hml := lowN_of_valid 8 3 m ((mapOk_iff hmo.kind).2 hm7)
    have CP := Lib.hid (rcopy_any 3 _ _ m w3 hM3.nod (fun b hb => hb) hml)
    have qM := six_of hM3.blk
    have HM3 := Lib.hid hM3
    have HMO := Lib.hid hmo
    have HM7 := Lib.hid hm7
    have HML := Lib.hid hml
    have HL3 := Lib.hid hm3
    have HB3 := Lib.hid B3
    clear hb1 hd1 hm hmo hm3 hg2 hd2 B2 k3 b3 hM3 hm7 hml LI RO B3
    go_upto_region 6 with (go_at_call 24; (with_reducible refine (CP.out).mono ?_); rintro e w4 ⟨cb, rfl, hn4, hb4⟩; obtain ⟨a3, l3, c3, a4, l4, c4, rfl⟩ : ∃ a3 l3 c3 a4 l4 c4, cb = [.int .i64 5, .bool false, .int .i64 0, .string ⟨#[]⟩, .slice a3 l3 c3, .slice a4 l4 c4] := (by have := hn4.slices; rw [HMO.out.kind, HMO.out.bool, HMO.out.num, HMO.out.text] at this; exact this))
    have k5 := heap_alloc_new w4 (.cells #[.int .i64 5, .bool false, .int .i64 0, .string ⟨#[]⟩, .slice a3 l3 c3, .slice a4 l4 c4] 26)
    have b5 := (Below.refl w4.heap.size w4).alloc (o := .cells #[.int .i64 5, .bool false, .int .i64 0, .string ⟨#[]⟩, .slice a3 l3 c3, .slice a4 l4 c4] 26) (Nat.le_refl _)
    generalize w4.alloc (.cells #[.int .i64 5, .bool false, .int .i64 0, .string ⟨#[]⟩, .slice a3 l3 c3, .slice a4 l4 c4] 26) = w5 at k5 b5 ⊢
    have hB5 : Hel 26 3 w5 w4.heap.size [.int .i64 5, .bool false, .int .i64 0, .string ⟨#[]⟩, .slice a3 l3 c3, .slice a4 l4 c4] m := ⟨k5, (hn4.same fun b hb => b5.block b hb.2.1).mono fun b hb => Nat.lt_of_lt_of_le hb.2.1 b5.size⟩
    have B35 : Below w3.heap.size w3 w5 := hb4.trans (b5.mono hb4.size)
    have hM5 := HM3.out.below B35
    have B5 : Below w.heap.size w w5 := HB3.out.trans (B35.mono HB3.out.size)
    have HM := Lib.hid (fun (wx : World) (hb : Below w5.heap.size w5 wx) => hM5.below hb)
    have HBF := Lib.hid (fun (wx : World) (hb : Below w5.heap.size w5 wx) => hB5.below hb)
    have BX := Lib.hid B5
    clear k5 b5 hB5 B35 hM5 B5 hb4 hn4 qM CP HM3 HB3
    obtain ⟨y, hy⟩ : ∃ y, y = putN m sOther (num 3) := ⟨_, rfl⟩
    have hy7 : MapOk 7 y := hy ▸ put_ok HM7.out other_ok.1 three_valid (.inl (by have := HL3.out; omega))
    have hy8 : validN 8 y = true := (mapOk_iff hy7.kind).2 hy7
    have PP := Lib.hid (fun (wx : World) (hb : Below w5.heap.size w5 wx) => put_any (d := 3) _ [.int .i64 2, .bool false, .int .i64 3, .string ⟨#[]⟩, .slice none 0 0, .slice none 0 0] m (num 3) sOther wx ((HM.out wx hb).nod.deeper (by decide)) ((num_in (fun b => b < wx.heap.size) wx 3).deeper (by decide)) (fun b hb => hb) (HT.out.below (BX.out.trans (hb.mono BX.out.size))) HM7.out three_valid (by rw [← hy]; exact hy8) other_ok.2)
    rw [← hy] at PP
    have HY7 := Lib.hid hy7
    have CK := Lib.hid (fun (wx : World) (hb : Below w5.heap.size w5 wx) => six_of (HM.out wx hb).blk)
    have hbd : Below w5.heap.size w5 w5.drew := (Below.refl _ _).drew
    clear hy hy7 hy8
    refine wp_region_plan (fun w' => w'.cell? ⟨w2.heap.size, 0, none⟩ = some (.int .i64 5) ∧ w'.cell? ⟨w2.heap.size, 1, none⟩ = some (.bool false) ∧ w'.cell? ⟨w2.heap.size, 2, none⟩ = some (.int .i64 0) ∧ w'.cell? ⟨w2.heap.size, 3, none⟩ = some (.string ⟨#[]⟩) ∧ w'.cell? ⟨w2.heap.size, 4, none⟩ = some (.slice a1 l1 c1) ∧ w'.cell? ⟨w2.heap.size, 5, none⟩ = some (.slice a2 l2 c2)) [0] (.take 0 (Plan.join true (.ask 1 true (.ask 2 false (.take 3 (.take 4 (.take 5 (.ask 6 false .stop .stop)))) (.ask 6 true (.ask 2 false (.take 3 (.take 4 (.take 5 .stop))) .stop) .stop)) (.ask 6 true (.ask 1 true (.ask 2 false (.take 3 (.take 4 (.take 5 .stop))) .stop) .stop) .stop)) (.ask 7 false (.ask 8 false .stop .stop) .stop))) (by kernel_rfl) (by kernel_rfl) (fun _ d _ _ _ h => by cases d <;> exact h) (CK.out _ hbd) ?_
    generalize w5.drew = wd at hbd ⊢
    refine take_held _ ?_ rfl rfl (by decide) ?_ (fun K hK => ?_); rotate_left; (intro w0 hw0; go_simp; (try rfl)); (go_simp; refine hK _ ?_; clear hK K)
    refine plan_cut [6, 23, 25, 26, 27, 28] (fun vs wx => ∃ (gb : Nat) (v1 v2 : Value), vs = [.pointer (some ⟨gb, 0, none⟩), .tuple #[.agg #[.int .i64 5, .bool false, .int .i64 0, .string ⟨#[]⟩, v1, v2], .int .i64 0], .agg #[.int .i64 2, .bool false, .int .i64 3, .string ⟨#[]⟩, .slice none 0 0, .slice none 0 0], .tuple #[.agg #[.int .i64 5, .bool false, .int .i64 0, .string ⟨#[]⟩, v1, v2], .int .i64 0], .agg #[.int .i64 5, .bool false, .int .i64 0, .string ⟨#[]⟩, v1, v2], .int .i64 0] ∧ w5.heap.size ≤ gb ∧ wx.heap[gb]? = some (.cells #[.int .i64 0, .bool false, .int .i64 0, .string ⟨#[]⟩, .slice none 0 0, .slice none 0 0] 26 (0, 0)) ∧ NodeIn 4 (XB w5.heap.size gb wx) wx [.int .i64 5, .bool false, .int .i64 0, .string ⟨#[]⟩, v1, v2] y ∧ Below w5.heap.size w5 wx) ?_ ?_
    · refine ask_step _ rfl ?_ ?_
      rotate_left
      · go_wp2_with (go_at_call 23; (with_reducible refine (nnum_any 3 _).mono ?_); rintro e W2 ⟨rfl, hb2⟩)
        have B2 := hbd.trans (hb2.mono hbd.size)
        refine Seg.mk ⟨CK.out _ B2, ?_⟩
        refine ask_late _ rfl ?_ ?_
        rotate_left
        · go_wp2_with (go_at_call 15; refine (PP.out _ B2).mono ?_; rintro e W3 ⟨v1, v2, rfl, hnn, hb3⟩)
          have B3 := B2.trans (hb3.mono B2.size)
          refine Seg.mk ?_
          refine take_any _ ?_ rfl rfl ?_ (fun K hK => ?_); rotate_left; (intro w0; go_simp; (try rfl)); (go_simp; refine hK _ ?_; clear hK K)
          refine take_any _ ?_ rfl rfl ?_ (fun K hK => ?_); rotate_left; (intro w0; go_simp; (try rfl)); (go_simp; refine hK _ ?_; clear hK K)
          refine take_any _ ?_ rfl rfl ?_ (fun K hK => ?_); rotate_left; (intro w0; go_simp; (try rfl)); (go_simp; refine hK _ ?_; clear hK K)
          have bz := (Below.refl W3.heap.size W3).alloc (o := (.cells #[.int .i64 0, .bool false, .int .i64 0, .string ⟨#[]⟩, .slice none 0 0, .slice none 0 0] 26)) (Nat.le_refl _)
          have gz := heap_alloc_new W3 (.cells #[.int .i64 0, .bool false, .int .i64 0, .string ⟨#[]⟩, .slice none 0 0, .slice none 0 0] 26)
          refine ask_late _ rfl trivial ?_
          go_wp2_with fail
          generalize hW : W3.alloc (.cells #[.int .i64 0, .bool false, .int .i64 0, .string ⟨#[]⟩, .slice none 0 0, .slice none 0 0] 26) = W7 at bz gz ⊢
          clear hW
          have B7 := B3.trans (bz.mono B3.size)
          have s2 := B2.size; have s3 := hb3.size; have s7 := bz.size
          refine Seg.mk ?_
          exact plan_meet [.pointer (some ⟨W3.heap.size, 0, none⟩), .tuple #[.agg #[.int .i64 5, .bool false, .int .i64 0, .string ⟨#[]⟩, v1, v2], .int .i64 0], .agg #[.int .i64 2, .bool false, .int .i64 3, .string ⟨#[]⟩, .slice none 0 0, .slice none 0 0], .tuple #[.agg #[.int .i64 5, .bool false, .int .i64 0, .string ⟨#[]⟩, v1, v2], .int .i64 0], .agg #[.int .i64 5, .bool false, .int .i64 0, .string ⟨#[]⟩, v1, v2], .int .i64 0] ⟨_, _, _, rfl, B3.size, gz, (hnn.same fun b hb => bz.block b hb.2.1).mono fun b hb => by have p1 := hb.1; have p2 := hb.2.1; exact ⟨by omega, by omega, by omega, (hb.move (base' := 0) (bz.block b hb.2.1) (Nat.zero_le _) bz.size).2.2⟩, B7⟩ rfl
        · have bz := (Below.refl W2.heap.size W2).alloc (o := (.cells #[.int .i64 0, .bool false, .int .i64 0, .string ⟨#[]⟩, .slice none 0 0, .slice none 0 0] 26)) (Nat.le_refl _)
          have gz := heap_alloc_new W2 (.cells #[.int .i64 0, .bool false, .int .i64 0, .string ⟨#[]⟩, .slice none 0 0, .slice none 0 0] 26)
          refine ask_step _ rfl trivial ?_
          go_wp2_with fail
          generalize hW : W2.alloc (.cells #[.int .i64 0, .bool false, .int .i64 0, .string ⟨#[]⟩, .slice none 0 0, .slice none 0 0] 26) = W7 at bz gz ⊢
          clear hW
          have B7 := B2.trans (bz.mono B2.size)
          refine Seg.mk ⟨CK.out _ B7, ?_⟩
          refine ask_late _ rfl trivial ?_
          go_wp2_with (go_at_call 15; refine (PP.out _ B7).mono ?_; rintro e W3 ⟨v1, v2, rfl, hnn, hb3⟩)
          have B3 := B7.trans (hb3.mono B7.size)
          refine Seg.mk ?_
          refine take_any _ ?_ rfl rfl ?_ (fun K hK => ?_); rotate_left; (intro w0; go_simp; (try rfl)); (go_simp; refine hK _ ?_; clear hK K)
          refine take_any _ ?_ rfl rfl ?_ (fun K hK => ?_); rotate_left; (intro w0; go_simp; (try rfl)); (go_simp; refine hK _ ?_; clear hK K)
          refine take_any _ ?_ rfl rfl ?_ (fun K hK => ?_); rotate_left; (intro w0; go_simp; (try rfl)); (go_simp; refine hK _ ?_; clear hK K)
          have hgl := lt_of_block gz
          have s2 := B2.size; have s3 := hb3.size; have s7 := bz.size
          exact plan_meet [.pointer (some ⟨W2.heap.size, 0, none⟩), .tuple #[.agg #[.int .i64 5, .bool false, .int .i64 0, .string ⟨#[]⟩, v1, v2], .int .i64 0], .agg #[.int .i64 2, .bool false, .int .i64 3, .string ⟨#[]⟩, .slice none 0 0, .slice none 0 0], .tuple #[.agg #[.int .i64 5, .bool false, .int .i64 0, .string ⟨#[]⟩, v1, v2], .int .i64 0], .agg #[.int .i64 5, .bool false, .int .i64 0, .string ⟨#[]⟩, v1, v2], .int .i64 0] ⟨_, _, _, rfl, B2.size, (hb3.block _ hgl).trans gz, hnn.mono fun b hb => by have p1 := hb.1; have p2 := hb.2.1; exact ⟨by omega, by omega, by omega, hb.2.2⟩, B3⟩ rfl
      · have bz := (Below.refl wd.heap.size wd).alloc (o := (.cells #[.int .i64 0, .bool false, .int .i64 0, .string ⟨#[]⟩, .slice none 0 0, .slice none 0 0] 26)) (Nat.le_refl _)
        have gz := heap_alloc_new wd (.cells #[.int .i64 0, .bool false, .int .i64 0, .string ⟨#[]⟩, .slice none 0 0, .slice none 0 0] 26)
        refine ask_step _ rfl trivial ?_
        go_wp2_with fail
        generalize hW : wd.alloc (.cells #[.int .i64 0, .bool false, .int .i64 0, .string ⟨#[]⟩, .slice none 0 0, .slice none 0 0] 26) = W7 at bz gz ⊢
        clear hW
        have B7 := hbd.trans (bz.mono hbd.size)
        refine Seg.mk ⟨CK.out _ B7, ?_⟩
        refine ask_step _ rfl trivial ?_
        go_wp2_with (go_at_call 23; (with_reducible refine (nnum_any 3 _).mono ?_); rintro e W2 ⟨rfl, hb2⟩)
        have B2 := B7.trans (hb2.mono B7.size)
        refine Seg.mk ⟨CK.out _ B2, ?_⟩
        refine ask_late _ rfl trivial ?_
        go_wp2_with (go_at_call 15; refine (PP.out _ B2).mono ?_; rintro e W3 ⟨v1, v2, rfl, hnn, hb3⟩)
        have B3 := B2.trans (hb3.mono B2.size)
        refine Seg.mk ?_
        refine take_any _ ?_ rfl rfl ?_ (fun K hK => ?_); rotate_left; (intro w0; go_simp; (try rfl)); (go_simp; refine hK _ ?_; clear hK K)
        refine take_any _ ?_ rfl rfl ?_ (fun K hK => ?_); rotate_left; (intro w0; go_simp; (try rfl)); (go_simp; refine hK _ ?_; clear hK K)
        refine take_any _ ?_ rfl rfl ?_ (fun K hK => ?_); rotate_left; (intro w0; go_simp; (try rfl)); (go_simp; refine hK _ ?_; clear hK K)
        have hgl := lt_of_block gz
        have s1 := hbd.size; have s2 := hb2.size; have s3 := hb3.size; have s7 := bz.size
        exact plan_meet [.pointer (some ⟨wd.heap.size, 0, none⟩), .tuple #[.agg #[.int .i64 5, .bool false, .int .i64 0, .string ⟨#[]⟩, v1, v2], .int .i64 0], .agg #[.int .i64 2, .bool false, .int .i64 3, .string ⟨#[]⟩, .slice none 0 0, .slice none 0 0], .tuple #[.agg #[.int .i64 5, .bool false, .int .i64 0, .string ⟨#[]⟩, v1, v2], .int .i64 0], .agg #[.int .i64 5, .bool false, .int .i64 0, .string ⟨#[]⟩, v1, v2], .int .i64 0] ⟨_, _, _, rfl, hbd.size, (hb3.block _ (Nat.lt_of_lt_of_le hgl s2)).trans ((hb2.block _ hgl).trans gz), hnn.mono fun b hb => by have p1 := hb.1; have p2 := hb.2.1; exact ⟨by omega, by omega, by omega, hb.2.2⟩, B3⟩ rfl
    · rintro vs w' ⟨gb, v1, v2, rfl, hgb, hgz, hnp, hb'⟩
      obtain ⟨g1, m1, k1, g2, m2, k2, e⟩ := hnp.slices
      simp only [List.cons.injEq, and_true, true_and] at e
      obtain ⟨-, -, -, -, rfl, rfl⟩ := e
      simp only [puts, Act.put, List.setIfInBounds_toArray, List.set_cons_zero, List.set_cons_succ]
      have f9 := free_six hgz
      have c9 := six_of hgz
      refine ask_late _ rfl trivial ?_; go_wp2_with fail; refine Seg.mk ?_
      have hput := six_put hgz (.int .i64 5) (.bool false) (.int .i64 0) (.string ⟨#[]⟩) (.slice g1 m1 k1) (.slice g2 m2 k2)
      have hgf := grown_set6 w' gb (.int .i64 5) (.bool false) (.int .i64 0) (.string ⟨#[]⟩) (.slice g1 m1 k1) (.slice g2 m2 k2)
      obtain ⟨W7, hW7⟩ : ∃ W, W = set6 w' gb (.int .i64 5) (.bool false) (.int .i64 0) (.string ⟨#[]⟩) (.slice g1 m1 k1) (.slice g2 m2 k2) := ⟨_, rfl⟩
      rw [← hW7] at hput hgf
      simp only [set6] at hW7
      rw [← hW7]
      clear hW7
      have e7 : ∀ b, XB w5.heap.size gb w' b → W7.heap[b]? = w'.heap[b]? := fun b hb => hgf.block b hb.2.2.1 (by intro e; exact hb.1 (Option.some.inj e))
      have hnp7 : NodeIn 4 (XB w5.heap.size gb W7) W7 _ y := (hnp.same (w' := W7) e7).mono fun b hb => ⟨hb.1, hb.2.1, Nat.lt_of_lt_of_le hb.2.2.1 hgf.size, by obtain ⟨cs, T, h⟩ := hb.2.2.2; exact ⟨cs, T, (e7 b hb).trans h⟩⟩
      have B7 : Below w5.heap.size w5 W7 := ⟨hgf.os.trans hb'.os, hgf.tape.trans hb'.tape, hgf.output.trans hb'.output, Nat.le_trans hb'.size hgf.size, fun b hb => (hgf.block b (Nat.lt_of_lt_of_le hb hb'.size) (by intro e; have := Option.some.inj e; omega)).trans (hb'.block b hb)⟩
      obtain ⟨hl1, hl2⟩ := hnp7.lens
      have hlen := HY7.out.len
      have hmost := HY7.out.most
      have hm12 : (m1 : Int) = (m2 : Int) := by omega
      have hm2 : (m2 : Int) ≤ 256 := by omega
      have hPg : PlainB W7 gb := ⟨_, _, hput⟩
      have HP := Lib.hid hPg
      have HPUT := Lib.hid hput
      have HNP := Lib.hid hnp7.parts
      have HL1 := Lib.hid hl1
      have HL2 := Lib.hid hl2
      have HLEN := Lib.hid hlen
      have HB7 := Lib.hid B7
      have GI := Lib.hid (fun (wx : World) (h : Like w5.heap.size W7 wx) => And.intro (h.slice hPg (six_of hput).2.2.2.2.1) (h.slice hPg (six_of hput).2.2.2.2.2))
      have q5 := (six_of hput).2.2.2.2.2
      clear hgf hnp hb' hgz f9 c9 hbd CK PP e7 hnp7 B7 hl1 hl2 hlen hmost hPg hput
      refine ask_last _ rfl trivial ?_
      go_wp2
      clear q5
      go_loopw [34] (fun i wr => ∃ j : Nat, i = .int .i64 j ∧ j ≤ m2 ∧ Like w5.heap.size W7 wr) (fun i _ => m2 - (intOf i).toNat)
      case atStart => exact ⟨0, rfl, Nat.zero_le _, Like.refl _ _⟩
      case round =>
        obtain ⟨j, rfl, hj, hlk⟩ := hrel
        by_cases hlt : j < m2
        · have hlt' : (j : Int) < (m2 : Int) := by omega
          have hlt1 : (j : Int) < (m1 : Int) := by omega
          have hj0 : (0 : Int) ≤ (j : Int) := by omega
          have hjy : j < y.items.length := by have := HL2.out; omega
          obtain ⟨t, ht⟩ : ∃ t, y.names[j]? = some t := ⟨_, List.getElem?_eq_getElem (by have := HLEN.out; omega)⟩
          obtain ⟨bn, on, en, hSn, kn⟩ := HNP.out.1.get ht
          subst en
          obtain ⟨-, -, -, bi, oi, zj, a13, l13, c13, a14, l14, c14, ei, hSi, hzj, hni, i0, i1, i2, i3, i4, i5⟩ := HNP.out.2.at hjy
          subst ei
          have hits := hni.parts.2
          have hl14 : l14 = zj.items.length := hni.lens.2
          have hv7 : validN 7 zj = true := HY7.out.items zj (List.mem_of_getElem? hzj)
          have hl14b : (l14 : Int) ≤ 1000000 := by have := (lowN_of_valid 7 1 zj hv7).2.1; omega
          have HITS := Lib.hid hits
          have HL14 := Lib.hid hl14
          obtain ⟨tn, q1, q2⟩ := hlk.str hSn.2.2.2 kn
          obtain ⟨q3, q4⟩ := GI.out _ hlk
          have hlk1 := hlk.setS { data := #[99, 104, 97, 110, 103, 101, 100] } hSn.2.1 hSn.2.2.2 kn
          have HI2 := Lib.hid (And.intro hSi (And.intro i2 i5))
          have HLK1 := Lib.hid hlk1
          clear ht kn hits hl14 hv7 hni hzj i0 i1 i3 i4 i2 i5 hSn hSi hlk hlk1 hjy
          go_upto_region 12 with fail
          obtain ⟨wa, hwa⟩ : ∃ W, W = wr.setCell ⟨bn, on + j, none⟩ (.string { data := #[99, 104, 97, 110, 103, 101, 100] }) := ⟨_, rfl⟩
          have hlka := HLK1.out
          rw [← hwa] at hlka
          rw [← hwa]
          clear hwa q1 q2 q3 q4 HLK1
          obtain ⟨hSi, i2, i5⟩ := HI2.out
          obtain ⟨zn, q1, q2⟩ := hlka.int hSi.2.2.2 i2
          obtain ⟨q3, q4⟩ := GI.out _ hlka
          have HLKA := Lib.hid hlka
          clear hSi i2 i5 hlka
          go_upto_region 13 with fail
          obtain ⟨wb, hwb⟩ : ∃ W, W = wa.setCell ⟨bi, oi + j * 6 + 2, none⟩ (.int .i64 (wrap64 (zn + 7))) := ⟨_, rfl⟩
          have hlkb := HLKA.out.setI (wrap64 (zn + 7)) HI2.out.1.2.1 HI2.out.1.2.2.2 HI2.out.2.1
          rw [← hwb] at hlkb
          rw [← hwb]
          clear hwb q1 q2 q3 q4 HLKA
          obtain ⟨q3, q4⟩ := GI.out _ hlkb
          have q5 := hlkb.slice HI2.out.1.2.2.2 HI2.out.2.2
          have HLKB := Lib.hid hlkb
          clear hlkb
          go_wp2
          clear q3 q4 q5
          go_loopw [57] (fun i wr => ∃ k : Nat, i = .int .i64 k ∧ k ≤ l14 ∧ Like w5.heap.size W7 wr) (fun i _ => l14 - (intOf i).toNat)
          case atStart => exact ⟨0, rfl, Nat.zero_le _, HLKB.out⟩
          case round =>
            obtain ⟨k, rfl, hk, hlk⟩ := hrel
            by_cases hkl : k < l14
            · have hkl' : (k : Int) < (l14 : Int) := by omega
              have hk0 : (0 : Int) ≤ (k : Int) := by omega
              obtain ⟨-, -, -, b2, o2, zk, _, _, _, _, _, _, e2, hS2, -, -, -, -, -, k3, -, -⟩ := HITS.out.at (by have := HL14.out; omega : k < zj.items.length)
              subst e2
              obtain ⟨tn2, q1, q2⟩ := hlk.str hS2.2.2.2 k3
              obtain ⟨q3, q4⟩ := GI.out _ hlk
              have q5 := hlk.slice HI2.out.1.2.2.2 HI2.out.2.2
              have hlk2 := Lib.hid (hlk.setS { data := #[99, 104, 97, 110, 103, 101, 100] } hS2.2.1 hS2.2.2.2 k3)
              clear k3 hlk hS2
              go_wp2
              go_roundw
              case rel => exact ⟨k + 1, by go_num, by omega, hlk2.out⟩
              case measure => simp [intOf]; omega
            · have hkl' : ¬ (k : Int) < (l14 : Int) := by omega
              have HLKC := Lib.hid hlk
              clear hlk
              go_wp2
              go_roundw
              case rel => exact ⟨j + 1, by go_num, by omega, HLKC.out⟩
              case measure => simp [intOf]; omega
        · have hlt' : ¬ (j : Int) < (m2 : Int) := by omega
          have BL : Below w5.heap.size w5 wr := HB7.out.trans hlk.1
          have qM := six_of (HM.out wr BL).blk
          obtain ⟨hd, hhd⟩ : ∃ hd, (getN m sA).isSome = hd := ⟨_, rfl⟩
          obtain ⟨z, hz⟩ : ∃ z, (getN m sA).getD nd0 = z := ⟨_, rfl⟩
          have hzk : hd = true ∨ (hd = false ∧ z.items.length = 0) := by
            rw [← hhd, ← hz]
            cases getN m sA with
            | none => exact .inr ⟨rfl, rfl⟩
            | some _ => exact .inl rfl
          have GM : Hid (Calls Tryd.prog 16 #[.agg #[.int .i64 5, .bool false, .int .i64 0, .string ⟨#[]⟩, .slice a1 l1 c1, .slice a2 l2 c2], .string { data := #[97] }] wr (fun e w' => ∃ cs : List Value, e = .returned (.tuple #[.agg cs.toArray, .bool hd]) ∧ NodeIn 3 (Fr wr.heap.size w') w' cs z ∧ Below wr.heap.size wr w')) := Lib.hid ((nget_any (d := 2) _ m sA wr (HM.out wr BL).nod (fun b hb => hb) HMO.out.kind HMO.out.len HML.out).mono fun e w' ⟨cs, he, hn, hb⟩ => ⟨cs, hhd ▸ he, hz ▸ hn, hb⟩)
          have HBL := Lib.hid BL
          clear hhd hz hlk BL hj hlt HNP GI
          go_upto_region 20 with (go_at_call 16; (with_reducible refine (GM.out).mono ?_); rintro e w20 ⟨cy, rfl, hn20, hb20⟩; obtain ⟨a5, l5, c5, a6, l6, c6, rfl⟩ : ∃ a5 l5 c5 a6 l6 c6, cy = [.int .i64 z.kind, .bool z.bool, .int .i64 z.num, .string z.text, .slice a5 l5 c5, .slice a6 l6 c6] := hn20.slices)
          have k21 := heap_alloc_new w20 (.cells #[.int .i64 z.kind, .bool z.bool, .int .i64 z.num, .string z.text, .slice a5 l5 c5, .slice a6 l6 c6] 26)
          have b21 := (Below.refl w20.heap.size w20).alloc (o := .cells #[.int .i64 z.kind, .bool z.bool, .int .i64 z.num, .string z.text, .slice a5 l5 c5, .slice a6 l6 c6] 26) (Nat.le_refl _)
          generalize w20.alloc (.cells #[.int .i64 z.kind, .bool z.bool, .int .i64 z.num, .string z.text, .slice a5 l5 c5, .slice a6 l6 c6] 26) = w21 at k21 b21 ⊢
          have hl6 : l6 = z.items.length := hn20.lens.2
          have hP20 : w5.heap.size ≤ w20.heap.size := Nat.le_trans HBL.out.size hb20.size
          have hlm : l6 ≤ maxLen := by
            obtain ⟨_, _, e, h1, h2, -⟩ := hn20.parts.2
            cases e
            omega
          have hrow21 : ∃ g, w5.heap.size ≤ g ∧ g ≠ w20.heap.size ∧ ∀ j, j < l6 → g < w21.heap.size ∧ ∃ o, a6 = some ⟨g, o, none⟩ ∧ PlainB w21 g ∧ ∃ u0 u1 u2 u3 u4 u5, w21.cell? ⟨g, o + j * 6, none⟩ = some u0 ∧ w21.cell? ⟨g, o + j * 6 + 1, none⟩ = some u1 ∧ w21.cell? ⟨g, o + j * 6 + 2, none⟩ = some u2 ∧ w21.cell? ⟨g, o + j * 6 + 3, none⟩ = some u3 ∧ w21.cell? ⟨g, o + j * 6 + 4, none⟩ = some u4 ∧ w21.cell? ⟨g, o + j * 6 + 5, none⟩ = some u5 := by
            by_cases h0 : l6 = 0
            · exact ⟨w20.heap.size + 1, by omega, by omega, fun j hj => by omega⟩
            · have hits := hn20.parts.2
              obtain ⟨-, -, -, g, o, _, _, _, _, _, _, _, e0, hS0, -⟩ := hits.at (by omega : 0 < z.items.length)
              subst e0
              refine ⟨g, Nat.le_trans HBL.out.size hS0.1, Nat.ne_of_lt hS0.2.1, fun j hj => ⟨Nat.lt_of_lt_of_le hS0.2.1 b21.size, o, rfl, (hS0.move (base' := 0) (b21.block g hS0.2.1) (Nat.zero_le _) b21.size).2.2, ?_⟩⟩
              obtain ⟨-, -, -, g', o', _, _, _, _, _, _, _, e1, -, -, -, q0, q1, q2, q3, q4, q5⟩ := hits.at (by omega : j < z.items.length)
              cases e1
              exact ⟨_, _, _, _, _, _, (b21.cell (p := ⟨g, o + j * 6, none⟩) hS0.2.1).trans q0, (b21.cell (p := ⟨g, o + j * 6 + 1, none⟩) hS0.2.1).trans q1, (b21.cell (p := ⟨g, o + j * 6 + 2, none⟩) hS0.2.1).trans q2, (b21.cell (p := ⟨g, o + j * 6 + 3, none⟩) hS0.2.1).trans q3, (b21.cell (p := ⟨g, o + j * 6 + 4, none⟩) hS0.2.1).trans q4, (b21.cell (p := ⟨g, o + j * 6 + 5, none⟩) hS0.2.1).trans q5⟩
          obtain ⟨g, hPg, hgne, hrow⟩ := hrow21
          have B21 : Below w5.heap.size w5 w21 := HBL.out.trans ((hb20.trans (b21.mono hb20.size)).mono HBL.out.size)
          have hdl : hd = true ∨ (hd = false ∧ (l6 : Int) = 0) := by
            rcases hzk with h | ⟨h, h0⟩
            · exact .inl h
            · exact .inr ⟨h, by omega⟩
          have HROW := Lib.hid hrow
          have HB21 := Lib.hid B21
          have HK21 := Lib.hid k21
          have hlm' : (l6 : Int) ≤ 9223372036854775807 := by unfold maxLen at hlm; omega
          have hbd : Below w21.heap.size w21 w21.drew := (Below.refl _ _).drew
          clear hn20 hb20 k21 b21 hl6 hlm hrow B21 hzk GM qM
          refine wp_region_plan (fun _ => True) [] (.ask 0 false (Plan.join true (.ask 1 false (.ask 2 false .stop .stop) (.ask 2 false (.ask 1 false .stop .stop) .stop)) (.ask 3 false .stop .stop)) .stop) (by kernel_rfl) (by kernel_rfl) (fun _ d _ _ _ h => by cases d <;> exact h) trivial ?_
          generalize w21.drew = wd2 at hbd ⊢
          refine ask_late _ rfl trivial ?_; go_wp2_with fail; refine Seg.mk ?_
          have kA := heap_alloc_new wd2 (.cells #[.bool false] 4)
          have bA := (Below.refl wd2.heap.size wd2).alloc (o := .cells #[.bool false] 4) (Nat.le_refl _)
          generalize wd2.alloc (.cells #[.bool false] 4) = wA at kA bA ⊢
          have oc : ∀ (wx : World) (bb : Bool), wx.heap[wd2.heap.size]? = some (.cells #[.bool bb] 4 (0, 0)) → wx.cell? ⟨wd2.heap.size, 0, none⟩ = some (.bool bb) ∧ wx.frozen? ⟨wd2.heap.size, 0, none⟩ = false := fun wx bb h => ⟨by simp [World.cell?, h], by simp [World.frozen?, h]⟩
          have OC := Lib.hid oc
          have bdA := hbd.trans (bA.mono hbd.size)
          have set1 : ∀ (wx : World) (bb cc : Bool), wx.heap[wd2.heap.size]? = some (.cells #[.bool bb] 4 (0, 0)) → (wx.setCell ⟨wd2.heap.size, 0, none⟩ (.bool cc)).heap[wd2.heap.size]? = some (.cells #[.bool cc] 4 (0, 0)) := fun wx bb cc h => by simpa using heap_setCell_same wx wd2.heap.size 0 #[.bool bb] 4 (.bool cc) h
          have SET1 := Lib.hid set1
          have hds := hbd.size
          clear oc set1 hbd bA
          refine plan_cut [] (fun vs wx => vs = [] ∧ ∃ bb : Bool, wx.heap[wd2.heap.size]? = some (.cells #[.bool bb] 4 (0, 0)) ∧ Below w21.heap.size w21 wx) ?_ ?_
          · obtain ⟨s1, s2⟩ := OC.out _ _ kA
            refine ask_late _ rfl ?_ ?_
            rotate_left
            · go_wp2_with fail; refine Seg.mk ?_
              have k1 := SET1.out wA false true kA
              have bB : Below w21.heap.size w21 (wA.setCell ⟨wd2.heap.size, 0, none⟩ (.bool true)) := bdA.setCell hds _
              generalize wA.setCell ⟨wd2.heap.size, 0, none⟩ (.bool true) = wB at k1 bB ⊢
              obtain ⟨s1, s2⟩ := OC.out _ _ k1
              refine ask_late _ rfl trivial ?_; go_wp2_with fail; refine Seg.mk ?_
              exact plan_meet [] ⟨rfl, false, SET1.out wB true false k1, bB.setCell hds _⟩ rfl
            · refine ask_late _ rfl trivial ?_; go_wp2_with fail; refine Seg.mk ?_
              have k1 := SET1.out wA false false kA
              have bB : Below w21.heap.size w21 (wA.setCell ⟨wd2.heap.size, 0, none⟩ (.bool false)) := bdA.setCell hds _
              generalize wA.setCell ⟨wd2.heap.size, 0, none⟩ (.bool false) = wB at k1 bB ⊢
              obtain ⟨s1, s2⟩ := OC.out _ _ k1
              refine ask_late _ rfl trivial ?_; go_wp2_with fail; refine Seg.mk ?_
              exact plan_meet [] ⟨rfl, true, SET1.out wB false true k1, bB.setCell hds _⟩ rfl
          · rintro vs w22 ⟨rfl, bb, kB, B22⟩
            simp only [puts, Act.put, List.setIfInBounds_toArray, List.set_cons_zero, List.set_cons_succ]
            have k22 := (B22.block _ (lt_of_block HK21.out)).trans HK21.out
            have HR22 := Lib.hid (fun (j : Nat) (hj : j < l6) => by
              obtain ⟨hgl, o, ea, ⟨cs, T, hp⟩, u0, u1, u2, u3, u4, u5, h0, h1, h2, h3, h4, h5⟩ := HROW.out j hj
              exact (⟨o, ea, ⟨cs, T, (B22.block g hgl).trans hp⟩, u0, u1, u2, u3, u4, u5, (B22.cell (p := ⟨g, o + j * 6, none⟩) hgl).trans h0, (B22.cell (p := ⟨g, o + j * 6 + 1, none⟩) hgl).trans h1, (B22.cell (p := ⟨g, o + j * 6 + 2, none⟩) hgl).trans h2, (B22.cell (p := ⟨g, o + j * 6 + 3, none⟩) hgl).trans h3, (B22.cell (p := ⟨g, o + j * 6 + 4, none⟩) hgl).trans h4, (B22.cell (p := ⟨g, o + j * 6 + 5, none⟩) hgl).trans h5⟩ : ∃ o, a6 = some ⟨g, o, none⟩ ∧ PlainB w22 g ∧ ∃ u0 u1 u2 u3 u4 u5, w22.cell? ⟨g, o + j * 6, none⟩ = some u0 ∧ w22.cell? ⟨g, o + j * 6 + 1, none⟩ = some u1 ∧ w22.cell? ⟨g, o + j * 6 + 2, none⟩ = some u2 ∧ w22.cell? ⟨g, o + j * 6 + 3, none⟩ = some u3 ∧ w22.cell? ⟨g, o + j * 6 + 4, none⟩ = some u4 ∧ w22.cell? ⟨g, o + j * 6 + 5, none⟩ = some u5))
            have B52 : Below w5.heap.size w5 w22 := HB21.out.trans (B22.mono HB21.out.size)
            have BC := Lib.hid (fun (wx : World) (hc : Clr g w22 wx) => B52.trans (hc.below hPg B52.size))
            have CY := Lib.hid (fun (wx : World) (hc : Clr g w22 wx) => (hc.1.block _ (lt_of_block k22) (by intro e; exact hgne (Option.some.inj e).symm)).trans k22)
            have q6 := six_of k22
            obtain ⟨s1, s2⟩ := OC.out _ _ kB
            clear HROW HK21 HB21 k22 B52 B22 kB kA bdA SET1 OC
            cases bb
            · refine ask_last _ rfl trivial ?_
              go_wp2
              clear q6 s1 s2
              go_loopw [90] (fun i wr => ∃ j : Nat, i = .int .i64 j ∧ j ≤ l6 ∧ Clr g w22 wr) (fun i _ => l6 - (intOf i).toNat)
              case atStart => exact ⟨0, rfl, Nat.zero_le _, Clr.refl _ _⟩
              case round =>
                obtain ⟨j, rfl, hj, hc⟩ := hrel
                by_cases hlt : j < l6
                · have hlt' : (j : Int) < (l6 : Int) := by omega
                  have hj0 : (0 : Int) ≤ (j : Int) := by omega
                  obtain ⟨o, ea, hp, u0, u1, u2, u3, u4, u5, h0, h1, h2, h3, h4, h5⟩ := HR22.out j hlt
                  subst ea
                  obtain ⟨x0, p0, r0⟩ := hc.cell hp h0
                  obtain ⟨x1, p1, r1⟩ := hc.cell hp h1
                  obtain ⟨x2, p2, r2⟩ := hc.cell hp h2
                  obtain ⟨x3, p3, r3⟩ := hc.cell hp h3
                  obtain ⟨x4, p4, r4⟩ := hc.cell hp h4
                  obtain ⟨x5, p5, r5⟩ := hc.cell hp h5
                  have q6 := six_of (CY.out _ hc)
                  have HC := Lib.hid ((((((hc.set (o + j * 6) (.int .i64 0)).set (o + j * 6 + 1) (.bool false)).set (o + j * 6 + 2) (.int .i64 0)).set (o + j * 6 + 3) (.string ⟨#[]⟩)).set (o + j * 6 + 4) (.slice none 0 0)).set (o + j * 6 + 5) (.slice none 0 0))
                  clear h0 h1 h2 h3 h4 h5 hp hc
                  go_wp2
                  go_roundw
                  case rel => exact ⟨j + 1, by go_num, by omega, HC.out⟩
                  case measure => simp [intOf]; omega
                · have hlt' : ¬ (j : Int) < (l6 : Int) := by omega
                  have HBX := Lib.hid (BC.out _ hc)
                  have KY := Lib.hid (CY.out _ hc)
                  have q4 := six_of (HM.out _ HBX.out).blk
                  have q5 := six_of (HBF.out _ HBX.out).blk
                  have SA := Lib.hid (same_any 3 3 _ _ _ _ m m _ (HBF.out _ HBX.out).nod (HM.out _ HBX.out).nod (fun b hb => hb) (fun b hb => hb))
                  have q6 := six_of KY.out
                  clear hc
                  rcases hdl with rfl | ⟨rfl, hl0⟩
                  all_goals
                    go_wp2_with (first
                      | (go_at_call 17; (with_reducible refine (SA.out).mono ?_); rintro e w30 ⟨bs, rfl, hbs, hb30⟩; obtain rfl : bs = true := hbs.2 (by first | exact rfl | trivial); (have q7 := six_of ((hb30.block _ (lt_of_block KY.out)).trans KY.out)); (have HB30 := Lib.hid (BX.out.trans ((HBX.out.trans (hb30.mono HBX.out.size)).mono BX.out.size))))
                      | (go_at_call 9; (with_reducible refine (AW.out _ HB30.out).mono ?_); rintro e w31 ⟨rfl, hb31⟩))
                    go_ret
                    exact ⟨rfl, HB30.out.trans (hb31.mono HB30.out.size)⟩
            · refine ask_last _ rfl trivial ?_
              by_cases hl : (l6 : Int) = 0
              · have hc := Clr.refl g w22
                have HBX := Lib.hid (BC.out _ hc)
                have KY := Lib.hid (CY.out _ hc)
                have q4 := six_of (HM.out _ HBX.out).blk
                have q5 := six_of (HBF.out _ HBX.out).blk
                have SA := Lib.hid (same_any 3 3 _ _ _ _ m m _ (HBF.out _ HBX.out).nod (HM.out _ HBX.out).nod (fun b hb => hb) (fun b hb => hb))
                have q6 := six_of KY.out
                clear hc
                rcases hdl with rfl | ⟨rfl, hl0⟩
                all_goals
                  go_wp2_with (first
                    | (go_at_call 17; (with_reducible refine (SA.out).mono ?_); rintro e w30 ⟨bs, rfl, hbs, hb30⟩; obtain rfl : bs = true := hbs.2 (by first | exact rfl | trivial); (have q7 := six_of ((hb30.block _ (lt_of_block KY.out)).trans KY.out)); (have HB30 := Lib.hid (BX.out.trans ((HBX.out.trans (hb30.mono HBX.out.size)).mono BX.out.size))))
                    | (go_at_call 9; (with_reducible refine (AW.out _ HB30.out).mono ?_); rintro e w31 ⟨rfl, hb31⟩))
                  go_ret
                  exact ⟨rfl, HB30.out.trans (hb31.mono HB30.out.size)⟩
              · go_wp2
                clear q6 s1 s2
                go_loopw [82] (fun i wr => ∃ j : Nat, i = .int .i64 j ∧ j ≤ l6 ∧ Clr g w22 wr) (fun i _ => l6 - (intOf i).toNat)
                case atStart => exact ⟨0, rfl, Nat.zero_le _, Clr.refl _ _⟩
                case round =>
                  obtain ⟨j, rfl, hj, hc⟩ := hrel
                  by_cases hlt : j < l6
                  · have hlt' : (j : Int) < (l6 : Int) := by omega
                    have hj0 : (0 : Int) ≤ (j : Int) := by omega
                    obtain ⟨o, ea, hp, u0, u1, u2, u3, u4, u5, h0, h1, h2, h3, h4, h5⟩ := HR22.out j hlt
                    subst ea
                    obtain ⟨x0, p0, r0⟩ := hc.cell hp h0
                    obtain ⟨x1, p1, r1⟩ := hc.cell hp h1
                    obtain ⟨x2, p2, r2⟩ := hc.cell hp h2
                    obtain ⟨x3, p3, r3⟩ := hc.cell hp h3
                    obtain ⟨x4, p4, r4⟩ := hc.cell hp h4
                    obtain ⟨x5, p5, r5⟩ := hc.cell hp h5
                    have q6 := six_of (CY.out _ hc)
                    have HC := Lib.hid ((((((hc.set (o + j * 6) (.int .i64 0)).set (o + j * 6 + 1) (.bool false)).set (o + j * 6 + 2) (.int .i64 0)).set (o + j * 6 + 3) (.string ⟨#[]⟩)).set (o + j * 6 + 4) (.slice none 0 0)).set (o + j * 6 + 5) (.slice none 0 0))
                    clear h0 h1 h2 h3 h4 h5 hp hc
                    go_wp2
                    go_roundw
                    case rel => exact ⟨j + 1, by go_num, by omega, HC.out⟩
                    case measure => simp [intOf]; omega
                  · have hlt' : ¬ (j : Int) < (l6 : Int) := by omega
                    have HBX := Lib.hid (BC.out _ hc)
                    have KY := Lib.hid (CY.out _ hc)
                    have q4 := six_of (HM.out _ HBX.out).blk
                    have q5 := six_of (HBF.out _ HBX.out).blk
                    have SA := Lib.hid (same_any 3 3 _ _ _ _ m m _ (HBF.out _ HBX.out).nod (HM.out _ HBX.out).nod (fun b hb => hb) (fun b hb => hb))
                    have q6 := six_of KY.out
                    clear hc
                    obtain rfl : hd = true := hdl.resolve_right (fun h => hl h.2)
                    go_wp2_with (first
                      | (go_at_call 17; (with_reducible refine (SA.out).mono ?_); rintro e w30 ⟨bs, rfl, hbs, hb30⟩; obtain rfl : bs = true := hbs.2 (by first | exact rfl | trivial); (have q7 := six_of ((hb30.block _ (lt_of_block KY.out)).trans KY.out)); (have HB30 := Lib.hid (BX.out.trans ((HBX.out.trans (hb30.mono HBX.out.size)).mono BX.out.size))))
                      | (go_at_call 9; (with_reducible refine (AW.out _ HB30.out).mono ?_); rintro e w31 ⟨rfl, hb31⟩))
                    go_ret
                    exact ⟨rfl, HB30.out.trans (hb31.mono HB30.out.size)⟩
  · rw [decide_eq_false h500] at LI
    clear h500
    go_enter Tryd.func6, Tryd.ntmps6
    go_wp2_with (first
      | (go_at_call 10; (with_reducible refine (LI.out _).mono ?_); rintro e w3 ⟨rfl, rfl⟩)
      | (go_at_call 9; (with_reducible refine (AW.out _ hB).mono ?_); rintro e w4 ⟨rfl, hb4⟩))
    go_ret
    exact ⟨rfl, hb4⟩
end Go.Proofs.YthcgkkafbobfoaaDoor
