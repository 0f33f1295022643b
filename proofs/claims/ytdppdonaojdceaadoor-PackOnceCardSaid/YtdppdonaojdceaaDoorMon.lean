/- The walk of the statement PackOnce. -/
import Derived.Test.YtdppdonaojdceaaDoorMaw
import Derived.Test.YtdppdonaojdceaaDoorJsm
import Derived.Test.YtdppdonaojdceaaDoorNputs
import Derived.Test.YtdppdonaojdceaaDoorNkn
import Derived.Test.YtdppdonaojdceaaDoorSpoil
namespace Go.Proofs.YtdppdonaojdceaaDoor
open Go Go.ChangeShapes Go.WideShapes Go.ChangeAt Go.RowKit
set_option linter.unusedVariables false
set_option linter.unusedSimpArgs false

set_option maxHeartbeats 6400000 in
set_option maxRecDepth 100000 in
theorem once8_walk (a : Option Addr) (len cap : Nat) (zs : List Int) (a1 a2 : Int) (s : ByteArray) (w : World) (hn : NumsB w.heap.size w a len cap zs) (h1 : -9223372036854775808 ≤ a1) (h2 : a1 ≤ 9223372036854775807) (hT : Ptab w) :
    Calls Tryd.prog 6 #[.slice a len cap, .int .i64 a1, .int .i64 a2, .string s] w fun e w' => e = .returned (.bool true) ∧ Below w.heap.size w w' := by
  have AW := Lib.hid (fun (wx : World) (hb : Below w.heap.size w wx) => awake8_any wx (hT.below hb))
  have LI := Lib.hid (fun wx : World => light_any a len cap wx)
  have HT := Lib.hid hT
  have RO := Lib.hid (roll_any a len cap zs w hn)
  have HA := Lib.hid (And.intro h1 h2)
  clear hn hT h1 h2
  by_cases h500 : (len : Int) ≤ 500
  · rw [decide_eq_true h500] at LI
    clear h500
    by_cases hs5 : 500 < s.size
    · have hs5' : (500 : Int) < (s.size : Int) := by omega
      go_enter Tryd.func6, Tryd.ntmps6
      go_wp2_with (first
        | (go_at_call 7; (with_reducible refine (LI.out _).mono ?_); rintro e w3 ⟨rfl, rfl⟩)
        | (go_at_call 8; (with_reducible refine (AW.out _ (Below.refl _ _)).mono ?_); rintro e w1 ⟨rfl, hb⟩))
      go_ret
      exact ⟨rfl, hb⟩
    · have hs5' : ¬ (500 : Int) < (s.size : Int) := by omega
      go_enter Tryd.func6, Tryd.ntmps6
      go_upto_region 4 with (first
        | (go_at_call 7; (with_reducible refine (LI.out _).mono ?_); rintro e w3 ⟨rfl, rfl⟩)
        | (go_at_call 9; (with_reducible refine (RO.out).mono ?_); rintro e w2 ⟨rfl, hb2, hd2⟩)
        | (go_at_call 11; (with_reducible refine (kmap_litk w.heap.size w.heap.size 3 3 rfl (by decide) (by decide) _ hd2).mono ?_); rintro e w5 ⟨⟨cs2, x2, rfl, hx2, hm2, hi2, hvw2, hc2⟩, hg5, hd5⟩; obtain ⟨a5, l5, c5, a6, l6, c6, rfl⟩ := hx2.slices; (have K2 := Lib.hid (KitM.ofMap (by decide) (by decide) hm2 hvw2 hc2)); (have hg2 := hd2.lt); (have hB5 := hb2.grown hg5 hb2.size (fun k hk => by cases hk; exact Nat.le_refl _)))
        | (go_at_call 13; refine (mpenc_any _ x2 w5 hx2 (fun b hb => hb.2) (clowV K2.out.valid _) (fun _ => K2.out.nums) (HT.out.below hB5)).mono ?_; rintro e w6 ⟨rfl, hb6⟩))
      have hB6 := hB5.trans (hb6.mono hB5.size)
      rw [K2.out.err]
      have hgs : (mpS x2).size ≤ 65536 := mpse_size x2
      generalize mpS x2 = good at hgs ⊢
      have HB6 := Lib.hid hB6
      have HG := Lib.hid hgs
      have HD := Lib.hid hd2
      clear hx2 hm2 hi2 hvw2 hc2 hg5 hd5 hB5 hb6 hb2 K2 hB6 hgs hd2
      go_upto_region 5 with (go_at_call 15; (with_reducible refine (spoil_any good a1 a2 _ (by have := HG.out; omega) HA.out.1 HA.out.2).mono ?_); rintro e w7 ⟨sp, rfl, hsp, hb7⟩)
      obtain ⟨L, hL⟩ : ∃ L, L = [sp, s, good] := ⟨_, rfl⟩
      have b8 := (Below.refl w7.heap.size w7).alloc (o := .cells #[.string sp, .string s, .string good] 9) (Nat.le_refl _)
      have k8 := heap_alloc_new w7 (.cells #[.string sp, .string s, .string good] 9)
      have hB7 := HB6.out.trans (hb7.mono HB6.out.size)
      have hB8 := hB7.trans (b8.mono hB7.size)
      obtain ⟨k, hk⟩ : ∃ k, k = w7.heap.size := ⟨_, rfl⟩
      rw [← hk] at k8 ⊢
      generalize w7.alloc (.cells #[.string sp, .string s, .string good] 9) = w8 at b8 k8 hB8 ⊢
      have HC : Hid (∀ (wr : World), Below w8.heap.size w8 wr → ∀ (j : Nat) (x : ByteArray), L[j]? = some x → wr.cell? ⟨k, j, none⟩ = some (.string x)) := Lib.hid fun wr hb j x hj => by
        have h1 := (hb.block k (lt_of_block k8)).trans k8
        exact cells_lit (L.map Value.string) h1 (by rw [hL]; rfl) j (.string x) (by rw [List.getElem?_map, hj]; rfl)
      have hLl : L.length = 3 := by rw [hL]; rfl
      have HLl := Lib.hid hLl
      have B8 := Lib.hid hB8
      clear hL hLl b8 k8 hB7 hB8 hk hb7 hsp
      go_loopw [41] (fun i wr => ∃ j : Nat, i = .int .i64 j ∧ j ≤ 3 ∧ Below w8.heap.size w8 wr) (fun i _ => 3 - (intOf i).toNat)
      case atStart => exact ⟨0, rfl, by omega, Below.refl _ _⟩
      case round =>
        obtain ⟨j, rfl, hj, hbr⟩ := hrel
        have hB := B8.out.trans (hbr.mono B8.out.size)
        by_cases hj4 : j < 3
        · have hj4' : (j : Int) < 3 := by omega
          have hj0 : (0 : Int) ≤ (j : Int) := by omega
          obtain ⟨x, hx⟩ : ∃ x, L[j]? = some x := ⟨_, List.getElem?_eq_getElem (by have := HLl.out; omega)⟩
          have hcell := HC.out wr hbr j x hx
          have DC := Lib.hid (mpdec_any x wr (HT.out.below hB))
          have HB := Lib.hid (And.intro hbr hB)
          clear hx hbr hB
          go_upto_region 8 with (go_at_call 17; (with_reducible refine (DC.out).mono ?_); rintro e9 w9 ⟨cs, n, er, rfl, hn9, hb9, hd9⟩; obtain ⟨p1, q1, r1, p2, q2, r2, rfl⟩ := hn9.slices)
          have b10 := (Below.refl w9.heap.size w9).alloc (o := .cells #[.int .i64 n.kind, .bool n.bool, .int .i64 n.num, .string n.text, .slice p1 q1 r1, .slice p2 q2 r2] 26) (Nat.le_refl _)
          have k10 := heap_alloc_new w9 (.cells #[.int .i64 n.kind, .bool n.bool, .int .i64 n.num, .string n.text, .slice p1 q1 r1, .slice p2 q2 r2] 26)
          have H10 : Hel 26 9 (w9.alloc (.cells #[.int .i64 n.kind, .bool n.bool, .int .i64 n.num, .string n.text, .slice p1 q1 r1, .slice p2 q2 r2] 26)) w9.heap.size [.int .i64 n.kind, .bool n.bool, .int .i64 n.num, .string n.text, .slice p1 q1 r1, .slice p2 q2 r2] n := ⟨k10, (hn9.same fun b hb => b10.block b hb.2).mono fun b hb => Nat.lt_of_lt_of_le hb.2 b10.size⟩
          have hbr10 : Below w8.heap.size w8 (w9.alloc (.cells #[.int .i64 n.kind, .bool n.bool, .int .i64 n.num, .string n.text, .slice p1 q1 r1, .slice p2 q2 r2] 26)) := HB.out.1.trans ((hb9.trans (b10.mono hb9.size)).mono HB.out.1.size)
          generalize w9.alloc (.cells #[.int .i64 n.kind, .bool n.bool, .int .i64 n.num, .string n.text, .slice p1 q1 r1, .slice p2 q2 r2] 26) = w10 at k10 H10 hbr10 ⊢
          have hB10 := B8.out.trans (hbr10.mono B8.out.size)
          obtain ⟨g, hg⟩ : ∃ g, g = w9.heap.size := ⟨_, rfl⟩
          rw [← hg] at H10 ⊢
          have HB10 := Lib.hid (And.intro hbr10 hB10)
          clear hg b10 k10 hn9 hb9 hbr10 hB10 hcell DC
          have fin := Lib.hid hd9
          rcases hd9 with ⟨rfl, -⟩ | ⟨rfl, rfl, -⟩
          · obtain ⟨j1, j2, j3, j4⟩ := mdec_enc fin.out
            have EN := Lib.hid (mpenc_any _ n w10 H10.nod (fun b hb => hb) (clowV j3 _) (fun _ => j4) (HT.out.below HB10.out.2))
            unfold MEncPost at EN
            rw [j1, j2] at EN
            have VA : Hid (∀ wx, Below w10.heap.size w10 wx → Calls Tryd.prog 20 #[.agg #[.int .i64 n.kind, .bool n.bool, .int .i64 n.num, .string n.text, .slice p1 q1 r1, .slice p2 q2 r2]] wx fun e w' => e = .returned (.bool true) ∧ Below wx.heap.size wx w') := Lib.hid fun wx hb => by
              have h := risvalid_t _ n wx (H10.below hb).nod (fun b hb => hb) (clowV j3 _) (HT.out.below (HB10.out.2.trans (hb.mono HB10.out.2.size)))
              rw [j3] at h
              exact h
            have hf := six_of H10.blk
            have HF := Lib.hid (fun wx (hb : Below w10.heap.size w10 wx) => six_of (H10.below hb).blk)
            have hxx : (x.toList != x.toList) = false := by simp
            clear j1 j2 j3 j4 H10
            go_wp2_with (first
              | (go_at_call 13; (with_reducible refine (EN.out).mono ?_); rintro e w11 ⟨rfl, hb11⟩; (have hf2 := HF.out _ hb11))
              | (go_at_call 20; (with_reducible refine (VA.out _ hb11).mono ?_); rintro e w12 ⟨rfl, hb12⟩))
            go_roundw
            case rel => exact ⟨j + 1, by go_num, by omega, HB10.out.1.trans ((hb11.trans (hb12.mono hb11.size)).mono HB10.out.1.size)⟩
            case measure => simp [intOf]; omega
          · obtain ⟨y1, y2⟩ := H10.nod.lens
            have z1 : q1 = 0 := y1
            have z2 : q2 = 0 := y2
            subst z1 z2
            clear y1 y2
            simp only [show nd0.kind = 0 from rfl, show nd0.bool = false from rfl, show nd0.num = 0 from rfl, show nd0.text = ⟨#[]⟩ from rfl] at H10 ⊢
            have SA := Lib.hid (rsame_any 9 1 _ (fun b => b < w10.heap.size) _ [.int .i64 0, .bool false, .int .i64 0, .string ⟨#[]⟩, .slice none 0 0, .slice none 0 0] nd0 nd0 w10 H10.nod (node_leaf _ w10 0 false 0 ⟨#[]⟩ (by decide)) (fun b hb => hb) (fun b hb => hb))
            have hf := six_of H10.blk
            clear H10
            go_wp2_with (go_at_call 19; (with_reducible refine (SA.out).mono ?_); rintro e w11 ⟨bz, rfl, hbz, hb11⟩; obtain rfl : bz = true := hbz.2 (by first | exact rfl | trivial))
            go_roundw
            case rel => exact ⟨j + 1, by go_num, by omega, HB10.out.1.trans (hb11.mono HB10.out.1.size)⟩
            case measure => simp [intOf]; omega
        · have hj4' : ¬ (j : Int) < 3 := by omega
          go_wp2_with (go_at_call 8; (with_reducible refine (AW.out _ hB).mono ?_); rintro e w11 ⟨rfl, hb11⟩)
          go_ret
          exact ⟨rfl, hB.trans (hb11.mono hB.size)⟩
  · rw [decide_eq_false h500] at LI
    clear h500
    go_enter Tryd.func6, Tryd.ntmps6
    go_wp2_with (first
      | (go_at_call 7; (with_reducible refine (LI.out _).mono ?_); rintro e w3 ⟨rfl, rfl⟩)
      | (go_at_call 8; (with_reducible refine (AW.out _ (Below.refl _ _)).mono ?_); rintro e w1 ⟨rfl, hb⟩))
    go_ret
    exact ⟨rfl, hb⟩
end Go.Proofs.YtdppdonaojdceaaDoor
