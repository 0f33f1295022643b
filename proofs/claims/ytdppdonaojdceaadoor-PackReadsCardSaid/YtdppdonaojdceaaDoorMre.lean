/- The walk of the statement PackReads. -/
import Derived.Test.YtdppdonaojdceaaDoorMaw
import Derived.Test.YtdppdonaojdceaaDoorJsm
import Derived.Test.YtdppdonaojdceaaDoorNputs
import Derived.Test.YtdppdonaojdceaaDoorNkn
import Derived.Test.YtdppdonaojdceaaDoorSpoil
namespace Go.Proofs.YtdppdonaojdceaaDoor
open Go Go.ChangeShapes Go.WideShapes Go.ChangeAt Go.RowKit
set_option linter.unusedVariables false
set_option linter.unusedSimpArgs false

set_option maxHeartbeats 6400000 in
set_option maxRecDepth 100000 in
theorem reads8_walk (a : Option Addr) (len cap : Nat) (zs : List Int) (s : ByteArray) (a1 a2 : Int) (w : World) (hn : NumsB w.heap.size w a len cap zs) (h1 : -9223372036854775808 ≤ a1) (h2 : a1 ≤ 9223372036854775807) (hT : Ptab w) :
    Calls Tryd.prog 4 #[.slice a len cap, .string s, .int .i64 a1, .int .i64 a2] w fun e w' => e = .returned (.bool true) ∧ Below w.heap.size w w' := by
  have AW := Lib.hid (fun (wx : World) (hb : Below w.heap.size w wx) => awake8_any wx (hT.below hb))
  have LI := Lib.hid (fun wx : World => light_any a len cap wx)
  have HT := Lib.hid hT
  have RO := Lib.hid (roll_any a len cap zs w hn)
  have HA := Lib.hid (And.intro h1 h2)
  clear hn hT h1 h2
  by_cases h500 : (len : Int) ≤ 500
  · rw [decide_eq_true h500] at LI
    clear h500
    by_cases hs5 : 1000 < s.size
    · have hs5' : (1000 : Int) < (s.size : Int) := by omega
      go_enter Tryd.func4, Tryd.ntmps4
      go_wp2_with (first
        | (go_at_call 7; (with_reducible refine (LI.out _).mono ?_); rintro e w3 ⟨rfl, rfl⟩)
        | (go_at_call 8; (with_reducible refine (AW.out _ (Below.refl _ _)).mono ?_); rintro e w1 ⟨rfl, hb⟩))
      go_ret
      exact ⟨rfl, hb⟩
    · have hs5' : ¬ (1000 : Int) < (s.size : Int) := by omega
      go_enter Tryd.func4, Tryd.ntmps4
      go_upto_region 4 with (first
        | (go_at_call 7; (with_reducible refine (LI.out _).mono ?_); rintro e w3 ⟨rfl, rfl⟩)
        | (go_at_call 9; (with_reducible refine (RO.out).mono ?_); rintro e w2 ⟨rfl, hb2, hd2⟩)
        | (go_at_call 10; (with_reducible refine (knode_litk w.heap.size w.heap.size 4 4 rfl (by decide) (by decide) _ hd2).mono ?_); rintro e w5 ⟨⟨cs2, x2, rfl, hx2, hv2⟩, hg5, hd5⟩; obtain ⟨a5, l5, c5, a6, l6, c6, rfl⟩ := hx2.slices; (have K2 := Lib.hid (KitM.of (by decide) (validK_w hv2) (validK_cost hv2))); (have hg2 := hd2.lt); (have hB5 := hb2.grown hg5 hb2.size (fun k hk => by cases hk; exact Nat.le_refl _)))
        | (go_at_call 14; refine (mrenc_t _ x2 w5 hx2 (fun b hb => hb.2) (clowV K2.out.valid _) (fun _ => ⟨K2.out.nums, Nat.le_trans K2.out.len (by decide)⟩) (HT.out.below hB5)).mono ?_; rintro e w6 ⟨rfl, hb6⟩))
      have hB6 := hB5.trans (hb6.mono hB5.size)
      rw [K2.out.err]
      have hgs : (mpS x2).size ≤ 65536 := mpse_size x2
      generalize mpS x2 = good at hgs ⊢
      have HB6 := Lib.hid hB6
      have HG := Lib.hid hgs
      have HD := Lib.hid (And.intro hd2.lt hb2.size)
      have hgi : (good.size : Int) ≤ 65536 := by omega
      have hgz : IntKind.i64.wrap ((good.size : Int) + 1) = ((good.size + 1 : Nat) : Int) := by rw [IntWalk.i64_in _ (by omega)]; omega
      have hcat1 : ¬ 9223372036854775807 < good.size + s.size := by omega
      have hcat2 : ¬ 9223372036854775807 < good.size + good.size := by omega
      obtain ⟨k, hk⟩ : ∃ k : Nat, (k : Int) = a1 % ((good.size + 1 : Nat) : Int) := ⟨(a1 % ((good.size + 1 : Nat) : Int)).toNat, by have := Int.emod_nonneg a1 (show ((good.size + 1 : Nat) : Int) ≠ 0 by omega); omega⟩
      have hkl : (k : Int) ≤ (good.size : Int) := by have := Int.emod_lt_of_pos a1 (show (0 : Int) < ((good.size + 1 : Nat) : Int) by omega); omega
      have hk0 : (0 : Int) ≤ (k : Int) := by omega
      have MO : Hid (∀ wx, Calls Tryd.prog 16 #[.int .i64 a1, .int .i64 ((good.size : Int) + 1)] wx fun e w' => e = .returned (.int .i64 (k : Int)) ∧ wx = w') := Lib.hid fun wx => by
        have := mod_any a1 (good.size + 1) wx (by omega) (by omega) HA.out.1 HA.out.2
        rw [hk, show ((good.size : Int) + 1) = ((good.size + 1 : Nat) : Int) by omega]
        exact this
      clear hx2 hv2 hg5 hd5 hB5 hb6 hb2 K2 hB6 hgs hd2 hk
      go_upto_region 5 with (first
        | (go_at_call 15; (with_reducible refine (spoil_any good a1 a2 _ (by have := HG.out; omega) HA.out.1 HA.out.2).mono ?_); rintro e w7 ⟨sp, rfl, hsp, hb7⟩)
        | (go_at_call 16; (with_reducible refine (MO.out _).mono ?_); rintro e w9 ⟨rfl, rfl⟩))
      obtain ⟨pre, hpre⟩ : ∃ pre, pre = good.extract 0 k := ⟨_, rfl⟩
      rw [← hpre]
      obtain ⟨L, hL⟩ : ∃ L, L = [s, good, sp, pre, good ++ s, good ++ good] := ⟨_, rfl⟩
      have b8 := (Below.refl w7.heap.size w7).alloc (o := .cells #[.string s, .string good, .string sp, .string pre, .string (good ++ s), .string (good ++ good)] 9) (Nat.le_refl _)
      have k8 := heap_alloc_new w7 (.cells #[.string s, .string good, .string sp, .string pre, .string (good ++ s), .string (good ++ good)] 9)
      have hB7 := HB6.out.trans (hb7.mono HB6.out.size)
      have hB8 := hB7.trans (b8.mono hB7.size)
      obtain ⟨kk, hkk⟩ : ∃ kk, kk = w7.heap.size := ⟨_, rfl⟩
      rw [← hkk] at k8 ⊢
      generalize w7.alloc (.cells #[.string s, .string good, .string sp, .string pre, .string (good ++ s), .string (good ++ good)] 9) = w8 at b8 k8 hB8 ⊢
      have HC : Hid (∀ (wr : World), Below w8.heap.size w8 wr → ∀ (j : Nat) (x : ByteArray), L[j]? = some x → wr.cell? ⟨kk, j, none⟩ = some (.string x)) := Lib.hid fun wr hb j x hj => by
        have h1 := (hb.block kk (lt_of_block k8)).trans k8
        exact cells_lit (L.map Value.string) h1 (by rw [hL]; rfl) j (.string x) (by rw [List.getElem?_map, hj]; rfl)
      have hLl : L.length = 6 := by rw [hL]; rfl
      have HLl := Lib.hid hLl
      have B8 := Lib.hid hB8
      clear hL hLl b8 k8 hB7 hB8 hkk hb7 hsp hpre hcat1 hcat2 hkl hk0 hgz hgi
      go_loopw [54] (fun i wr => ∃ j : Nat, i = .int .i64 j ∧ j ≤ 6 ∧ Below w8.heap.size w8 wr) (fun i _ => 6 - (intOf i).toNat)
      case atStart => exact ⟨0, rfl, by omega, Below.refl _ _⟩
      case round =>
        obtain ⟨j, rfl, hj, hbr⟩ := hrel
        have hB := B8.out.trans (hbr.mono B8.out.size)
        by_cases hj4 : j < 6
        · have hj4' : (j : Int) < 6 := by omega
          have hj0 : (0 : Int) ≤ (j : Int) := by omega
          obtain ⟨x, hx⟩ : ∃ x, L[j]? = some x := ⟨_, List.getElem?_eq_getElem (by have := HLl.out; omega)⟩
          have hcell := HC.out wr hbr j x hx
          have DC := Lib.hid (mpdec_any x wr (HT.out.below hB))
          have HB := Lib.hid (And.intro hbr hB)
          clear hx hbr hB
          go_upto_region 8 with (go_at_call 17; (with_reducible refine (DC.out).mono ?_); rintro e9 w9 ⟨cs, n, er, rfl, hn9, hb9, hd9⟩; obtain ⟨p1, q1, r1, p2, q2, r2, rfl⟩ := hn9.slices)
          have b10 := (Below.refl w9.heap.size w9).alloc (o := .cells #[.int .i64 n.kind, .bool n.bool, .int .i64 n.num, .string n.text, .slice p1 q1 r1, .slice p2 q2 r2] 26) (Nat.le_refl _)
          have k10 := heap_alloc_new w9 (.cells #[.int .i64 n.kind, .bool n.bool, .int .i64 n.num, .string n.text, .slice p1 q1 r1, .slice p2 q2 r2] 26)
          have H10 : Hel 26 9 (w9.alloc (.cells #[.int .i64 n.kind, .bool n.bool, .int .i64 n.num, .string n.text, .slice p1 q1 r1, .slice p2 q2 r2] 26)) w9.heap.size [.int .i64 n.kind, .bool n.bool, .int .i64 n.num, .string n.text, .slice p1 q1 r1, .slice p2 q2 r2] n := ⟨k10, (hn9.same fun b hb => b10.block b hb.2).mono fun b hb => Nat.lt_of_lt_of_le hb.2 b10.size⟩
          have hbr10 : Below w8.heap.size w8 (w9.alloc (.cells #[.int .i64 n.kind, .bool n.bool, .int .i64 n.num, .string n.text, .slice p1 q1 r1, .slice p2 q2 r2] 26)) := HB.out.1.trans ((hb9.trans (b10.mono hb9.size)).mono HB.out.1.size)
          have hz10 : 0 < (w9.alloc (.cells #[.int .i64 n.kind, .bool n.bool, .int .i64 n.num, .string n.text, .slice p1 q1 r1, .slice p2 q2 r2] 26)).heap.size := by simp
          generalize w9.alloc (.cells #[.int .i64 n.kind, .bool n.bool, .int .i64 n.num, .string n.text, .slice p1 q1 r1, .slice p2 q2 r2] 26) = w10 at b10 k10 H10 hbr10 hz10 ⊢
          have hB10 := B8.out.trans (hbr10.mono B8.out.size)
          obtain ⟨g, hg⟩ : ∃ g, g = w9.heap.size := ⟨_, rfl⟩
          rw [← hg] at H10 ⊢
          have RD := Lib.hid (mrdec_t x w10 (HT.out.below hB10) hz10)
          have HB10 := Lib.hid (And.intro hbr10 hB10)
          have HD9 := Lib.hid hd9
          have HH10 := Lib.hid H10
          clear hg b10 k10 hn9 hb9 hbr10 hB10 hcell DC hd9 H10 hz10
          go_upto_region 9 with (go_at_call 18; (with_reducible refine (RD.out).mono ?_); rintro e11 w11 ⟨cs, m, er', rfl, hn11, hb11, hd11⟩; go_loud ((obtain ⟨rfl, rfl⟩ := mdec_uniq HD9.out hd11); (obtain ⟨p3, q3, r3, p4, q4, r4, hcs⟩ := hn11.slices); subst hcs))
          have b12 := (Below.refl w11.heap.size w11).alloc (o := .cells #[.int .i64 n.kind, .bool n.bool, .int .i64 n.num, .string n.text, .slice p3 q3 r3, .slice p4 q4 r4] 26) (Nat.le_refl _)
          have k12 := heap_alloc_new w11 (.cells #[.int .i64 n.kind, .bool n.bool, .int .i64 n.num, .string n.text, .slice p3 q3 r3, .slice p4 q4 r4] 26)
          have H12 : Hel 26 9 (w11.alloc (.cells #[.int .i64 n.kind, .bool n.bool, .int .i64 n.num, .string n.text, .slice p3 q3 r3, .slice p4 q4 r4] 26)) w11.heap.size [.int .i64 n.kind, .bool n.bool, .int .i64 n.num, .string n.text, .slice p3 q3 r3, .slice p4 q4 r4] n := ⟨k12, (hn11.same fun b hb => b12.block b hb.2).mono fun b hb => Nat.lt_of_lt_of_le hb.2 b12.size⟩
          have hb1012 := hb11.trans (b12.mono hb11.size)
          generalize w11.alloc (.cells #[.int .i64 n.kind, .bool n.bool, .int .i64 n.num, .string n.text, .slice p3 q3 r3, .slice p4 q4 r4] 26) = w12 at b12 k12 H12 hb1012 ⊢
          obtain ⟨g2, hg2⟩ : ∃ g2, g2 = w11.heap.size := ⟨_, rfl⟩
          rw [← hg2] at H12 ⊢
          have H10' := HH10.out.below hb1012
          have SA := Lib.hid (rsame_any 9 9 _ _ _ _ n n w12 H10'.nod H12.nod (fun b hb => hb) (fun b hb => hb))
          have f1 := six_of H10'.blk
          have f2 := six_of H12.blk
          have HBB := Lib.hid hb1012
          clear hg2 b12 k12 hn11 hb11 hd11 H12 H10' hb1012 HH10 HD9 RD
          go_wp2_with (go_at_call 19; (with_reducible refine (SA.out).mono ?_); rintro e w13 ⟨bz, rfl, hbz, hb13⟩; obtain rfl : bz = true := hbz.2 (by first | exact rfl | trivial))
          go_roundw
          case rel => exact ⟨j + 1, by go_num, by omega, HB10.out.1.trans ((HBB.out.trans (hb13.mono HBB.out.size)).mono HB10.out.1.size)⟩
          case measure => simp [intOf]; omega
        · have hj4' : ¬ (j : Int) < 6 := by omega
          go_wp2_with (go_at_call 8; (with_reducible refine (AW.out _ hB).mono ?_); rintro e w11 ⟨rfl, hb11⟩)
          go_ret
          exact ⟨rfl, hB.trans (hb11.mono hB.size)⟩
  · rw [decide_eq_false h500] at LI
    clear h500
    go_enter Tryd.func4, Tryd.ntmps4
    go_wp2_with (first
      | (go_at_call 7; (with_reducible refine (LI.out _).mono ?_); rintro e w3 ⟨rfl, rfl⟩)
      | (go_at_call 8; (with_reducible refine (AW.out _ (Below.refl _ _)).mono ?_); rintro e w1 ⟨rfl, hb⟩))
    go_ret
    exact ⟨rfl, hb⟩
end Go.Proofs.YtdppdonaojdceaaDoor
