/- The walk of the statement PackWrites. -/
import Derived.Test.YtdppdonaojdceaaDoorMaw
import Derived.Test.YtdppdonaojdceaaDoorNputs
import Derived.Test.YtdppdonaojdceaaDoorPlan
namespace Go.Proofs.YtdppdonaojdceaaDoor
open Go Go.ChangeShapes Go.WideShapes Go.ChangeAt Go.RowKit
set_option linter.unusedVariables false
set_option linter.unusedSimpArgs false

theorem cNumsB_go {w w' : World} {a : Option Addr} {len cap : Nat} {zs : List Int} (h : NumsB w.heap.size w a len cap zs) (hb : Below w.heap.size w w') : NumsB w'.heap.size w' a len cap zs := by
  obtain ⟨h1, h2, h3, h4⟩ := h.same fun j hj => hb.block j hj
  refine ⟨h1, h2, fun i hi => ?_, h4⟩
  obtain ⟨b, off, e, hbB, hc⟩ := h3 i hi
  exact ⟨b, off, e, Nat.lt_of_lt_of_le hbB hb.size, hc⟩
/-- The four nodes' cells in a row. -/
theorem cfour_in {D : Nat} {w : World} {g : Nat} {T : TypeId} (c1 c2 c3 c4 : List Value) (x1 x2 x3 x4 : ND) (h1 : NodeIn D (fun b => b < w.heap.size) w c1 x1) (h2 : NodeIn D (fun b => b < w.heap.size) w c2 x2) (h3 : NodeIn D (fun b => b < w.heap.size) w c3 x3) (h4 : NodeIn D (fun b => b < w.heap.size) w c4 x4)
    (k : w.heap[g]? = some (.cells (c1 ++ (c2 ++ (c3 ++ c4))).toArray T (0, 0))) : NodesIn (NodeIn D (fun b => b < w.heap.size) w) (fun b => b < w.heap.size) w (.slice (some ⟨g, 0, none⟩) 4 4) [x1, x2, x3, x4] :=
  nodes_of_block (d := D) [(c1, x1), (c2, x2), (c3, x3), (c4, x4)] k (by simp [nCells]) (lt_of_block k) (show 4 ≤ maxLen by decide) (fun y hy => by
    simp only [List.mem_cons, List.not_mem_nil, or_false] at hy
    rcases hy with rfl | rfl | rfl | rfl
    · exact h1
    · exact h2
    · exact h3
    · exact h4)
set_option maxHeartbeats 6400000 in
set_option maxRecDepth 100000 in
theorem writes8_walk (a : Option Addr) (len cap : Nat) (zs : List Int) {D : Nat} (cs : List Value) (x : ND) (w : World) (hn : NumsB w.heap.size w a len cap zs) (hx : NodeIn D (fun b => b < w.heap.size) w cs x) (hxn : numsB 8 x = true) (hT : Ptab w) :
    Calls Tryd.prog 3 #[.slice a len cap, .agg cs.toArray] w fun e w' => e = .returned (.bool true) ∧ Below w.heap.size w w' := by
  obtain ⟨ax, lx, cx, ay, ly, cy, rfl⟩ := hx.slices
  obtain ⟨hl1, hl2⟩ := hx.lens
  have AW := Lib.hid (fun (wx : World) (hb : Below w.heap.size w wx) => awake8_any wx (hT.below hb))
  have LI := Lib.hid (fun wx : World => light_any a len cap wx)
  have bX := (Below.refl w.heap.size w).alloc (o := .cells #[.int .i64 x.kind, .bool x.bool, .int .i64 x.num, .string x.text, .slice ax lx cx, .slice ay ly cy] 26) (Nat.le_refl _)
  have kX := heap_alloc_new w (.cells #[.int .i64 x.kind, .bool x.bool, .int .i64 x.num, .string x.text, .slice ax lx cx, .slice ay ly cy] 26)
  have hwl : w.heap.size < (w.alloc (.cells #[.int .i64 x.kind, .bool x.bool, .int .i64 x.num, .string x.text, .slice ax lx cx, .slice ay ly cy] 26)).heap.size := by simp
  have hts : x.text.size ≤ maxLen - 2 := by
    cases D with
    | zero => exact hx.elim
    | succ D => obtain ⟨_, _, _, ht, _⟩ := hx; exact ht
  unfold maxLen at hts
  have HX := Lib.hid hx
  have HXN := Lib.hid hxn
  have HNB := Lib.hid hn
  have HT := Lib.hid hT
  have HL2 := Lib.hid hl2
  have hly : ly ≤ maxLen := by
    cases D with
    | zero => exact hx.elim
    | succ D => obtain ⟨_, _, e, _, _, ⟨_, _, e2, h1, h2, _⟩⟩ := hx; simp only [List.cons.injEq, and_true] at e; obtain ⟨_, _, _, _, _, rfl⟩ := e; cases e2; omega
  unfold maxLen at hly
  clear hx hxn hn hT hl2 hl1
  go_enter Tryd.func3, Tryd.ntmps3
  go_upto_region 1 with fail
  generalize w.alloc (.cells #[.int .i64 x.kind, .bool x.bool, .int .i64 x.num, .string x.text, .slice ax lx cx, .slice ay ly cy] 26) = w1 at bX kX hwl ⊢
  have B1 := Lib.hid bX
  have K1 := Lib.hid kX
  have WL := Lib.hid hwl
  have ck := six_of kX
  clear bX kX hwl
  go_cut [28] from 14 to 27 (fun v wx => v = .bool (!(decide ((len : Int) ≤ 500)) || (decide (8 < ly) || decide (3000 < x.text.size))) ∧ wx = w1)
  case first =>
    by_cases h500 : (len : Int) ≤ 500
    · rw [decide_eq_true h500] at LI
      by_cases h8 : 8 < ly
      · have h8' : (8 : Int) < (ly : Int) := by omega
        go_wp2_with (go_at_call 7; (with_reducible refine (LI.out _).mono ?_); rintro e w3 ⟨rfl, rfl⟩)
        go_meet
        case rel => exact ⟨congrArg Value.bool (by rw [decide_eq_true h500, decide_eq_true h8]; first | rfl | simp), rfl⟩
      · have h8' : ¬ (8 : Int) < (ly : Int) := by omega
        by_cases h3 : 3000 < x.text.size
        · have h3' : (3000 : Int) < (x.text.size : Int) := by omega
          go_wp2_with (go_at_call 7; (with_reducible refine (LI.out _).mono ?_); rintro e w3 ⟨rfl, rfl⟩)
          go_meet
          case rel => exact ⟨congrArg Value.bool (by rw [decide_eq_true h500, decide_eq_false h8, decide_eq_true h3]; first | rfl | simp [h3']), rfl⟩
        · have h3' : ¬ (3000 : Int) < (x.text.size : Int) := by omega
          go_wp2_with (go_at_call 7; (with_reducible refine (LI.out _).mono ?_); rintro e w3 ⟨rfl, rfl⟩)
          go_meet
          case rel => exact ⟨congrArg Value.bool (by rw [decide_eq_true h500, decide_eq_false h8, decide_eq_false h3]; first | rfl | (simp; omega)), rfl⟩
    · rw [decide_eq_false h500] at LI
      go_wp2_with (go_at_call 7; (with_reducible refine (LI.out _).mono ?_); rintro e w3 ⟨rfl, rfl⟩)
      go_meet
      case rel => exact ⟨congrArg Value.bool (by rw [decide_eq_false (show ¬ (len : Int) ≤ 500 by omega)]; first | rfl | simp), rfl⟩
  case rest =>
    obtain ⟨rfl, rfl⟩ := hcut
    cases hbad : (!(decide ((len : Int) ≤ 500)) || (decide (8 < ly) || decide (3000 < x.text.size))) with
    | true =>
      go_wp2_with (go_at_call 8; (with_reducible refine (AW.out _ B1.out).mono ?_); rintro e w3 ⟨rfl, hb3⟩)
      go_ret
      exact ⟨rfl, B1.out.trans (hb3.mono B1.out.size)⟩
    | false =>
    simp only [Bool.or_eq_false_iff, decide_eq_false_iff_not, Bool.not_eq_false', decide_eq_true_eq] at hbad
    obtain ⟨-, h8, h3⟩ := hbad
    have hly8 : ly ≤ 8 := by omega
    clear h3 h8
    go_upto_region 4 with fail
    clear ck
    go_loopw [33] (fun i wr => ∃ j : Nat, i = .int .i64 j ∧ j ≤ ly ∧ (∀ y, y ∈ x.items.take j → y.items = []) ∧ Below wc.heap.size wc wr) (fun i _ => ly - (intOf i).toNat)
    case atStart => exact ⟨0, rfl, Nat.zero_le _, (fun y hy => by simp at hy), Below.refl _ _⟩
    case round =>
      obtain ⟨j, rfl, hj, hok, hB⟩ := hrel
      by_cases hlt : j < ly
      · have hlt' : (j : Int) < (ly : Int) := by omega
        have hj0 : (0 : Int) ≤ (j : Int) := by omega
        obtain ⟨D', rfl⟩ : ∃ D', D = D' + 1 := by
          cases D with
          | zero => exact HX.out.elim
          | succ D => exact ⟨D, rfl⟩
        obtain ⟨-, -, -, b, off, y, a3, l3, c3, a4, l4, c4, rfl, hSb, hxj, hnd, k0, k1, k2, k3, k4, k5⟩ := HX.out.parts.2.at (j := j) (by have := HL2.out; omega)
        have hbw := Nat.lt_of_lt_of_le hSb B1.out.size
        have q0 := ((hB.cell (p := ⟨b, off + j * 6, none⟩) hbw).trans (B1.out.cell (p := ⟨b, off + j * 6, none⟩) hSb)).trans k0
        have q1 := ((hB.cell (p := ⟨b, off + j * 6 + 1, none⟩) hbw).trans (B1.out.cell (p := ⟨b, off + j * 6 + 1, none⟩) hSb)).trans k1
        have q2 := ((hB.cell (p := ⟨b, off + j * 6 + 2, none⟩) hbw).trans (B1.out.cell (p := ⟨b, off + j * 6 + 2, none⟩) hSb)).trans k2
        have q3 := ((hB.cell (p := ⟨b, off + j * 6 + 3, none⟩) hbw).trans (B1.out.cell (p := ⟨b, off + j * 6 + 3, none⟩) hSb)).trans k3
        have q4 := ((hB.cell (p := ⟨b, off + j * 6 + 4, none⟩) hbw).trans (B1.out.cell (p := ⟨b, off + j * 6 + 4, none⟩) hSb)).trans k4
        have q5 := ((hB.cell (p := ⟨b, off + j * 6 + 5, none⟩) hbw).trans (B1.out.cell (p := ⟨b, off + j * 6 + 5, none⟩) hSb)).trans k5
        clear k0 k1 k2 k3 k4 k5
        have hyl := hnd.lens.2
        have bA := hB.alloc (o := .cells #[.int .i64 y.kind, .bool y.bool, .int .i64 y.num, .string y.text, .slice a3 l3 c3, .slice a4 l4 c4] 26) hB.size
        have cA := six_of (heap_alloc_new wr (.cells #[.int .i64 y.kind, .bool y.bool, .int .i64 y.num, .string y.text, .slice a3 l3 c3, .slice a4 l4 c4] 26))
        have HXJ := Lib.hid hxj
        have HOK := Lib.hid hok
        have BA := Lib.hid bA
        have HYL := Lib.hid hyl
        clear hxj hnd hok bA hB hyl
        go_upto_region 6 with fail
        clear q0 q1 q2 q3 q4 q5
        generalize wr.alloc (.cells #[.int .i64 y.kind, .bool y.bool, .int .i64 y.num, .string y.text, .slice a3 l3 c3, .slice a4 l4 c4] 26) = wa at BA cA ⊢
        by_cases h0 : 0 < l4
        · have h0' : (0 : Int) < (l4 : Int) := by omega
          go_wp2_with (go_at_call 8; (with_reducible refine (AW.out _ (B1.out.trans (BA.out.mono B1.out.size))).mono ?_); rintro e w3 ⟨rfl, hb3⟩)
          go_ret
          exact ⟨rfl, (B1.out.trans (BA.out.mono B1.out.size)).trans (hb3.mono (Nat.le_trans B1.out.size BA.out.size))⟩
        · have h0' : ¬ (0 : Int) < (l4 : Int) := by omega
          have hy0 : y.items = [] := List.length_eq_zero_iff.1 (by have := HYL.out; omega)
          go_wp2
          go_roundw
          case rel =>
            refine ⟨j + 1, by go_num, by omega, fun z hz => ?_, BA.out⟩
            rw [take_snocN HXJ.out] at hz
            rcases List.mem_append.1 hz with hz | hz
            · exact HOK.out z hz
            · cases List.mem_singleton.1 hz; exact hy0
          case measure => simp [intOf]; omega
      · have hlt' : ¬ (j : Int) < (ly : Int) := by omega
        rw [List.take_of_length_le (by have := HL2.out; omega)] at hok
        have HOK := Lib.hid hok
        have hb1 := B1.out.trans (hB.mono B1.out.size)
        have RO := Lib.hid (roll_any a len cap zs wr (cNumsB_go HNB.out hb1))
        have BR := Lib.hid hB
        have BW := Lib.hid hb1
        clear hok hB hb1
        go_upto_region 10 with (go_at_call 9; (with_reducible refine (RO.out).mono ?_); rintro e w2 ⟨rfl, hb2, hd2⟩)
        have hB2 := BR.out.trans (hb2.mono BR.out.size)
        have k2 := (hB2.block _ WL.out).trans K1.out
        obtain ⟨c0, c1, c2, c3, c4, c5⟩ := six_of k2
        have hBW2 := BW.out.trans (hb2.mono BW.out.size)
        have hg2 := hd2.lt
        have hxr : w.heap.size < wr.heap.size := Nat.lt_of_lt_of_le WL.out BR.out.size
        have hbd : Below w2.heap.size w2 w2.drew := (Below.refl _ _).drew
        have hdd : DiceAt wr.heap.size w2.drew wr.heap.size := hd2.go hbd
        have CK : ∀ q v, w2.cell? ⟨w.heap.size, q, none⟩ = some v → w2.drew.cell? ⟨w.heap.size, q, none⟩ = some v := fun q v h => h
        refine wp_region_plan (fun w' => w'.heap[w.heap.size]? = some (.cells #[.int .i64 x.kind, .bool x.bool, .int .i64 x.num, .string x.text, .slice ax lx cx, .slice ay ly cy] 26 (0, 0))) [4] (.take 0 (.take 2 (.take 4 (.take 5 (.take 8 (.take 13 (.ask 1 true (.ask 3 true (.ask 6 true (.take 7 (.ask 9 true (.take 10 (.ask 11 false (.ask 12 false .stop .stop) .stop)) .stop)) .stop) .stop) .stop))))))) (by kernel_rfl) (by kernel_rfl) (fun _ d _ _ _ h => by cases d <;> exact h) k2 ?_
        have kd : w2.drew.heap[w.heap.size]? = _ := k2
        have hzd : w2.heap.size ≤ w2.drew.heap.size := Nat.le_refl _
        have hBd := hBW2.trans (hbd.mono hBW2.size)
        clear c0 c1 c2 c3 c4 c5 k2 CK hd2 hB2 hBW2 hbd hb2
        generalize w2.drew = wd at kd hzd hBd hdd ⊢
        refine take_any _ ?_ rfl rfl ?_ (fun K hK => ?_); rotate_left; (intro w0; go_simp; (try rfl)); (go_simp; refine hK _ ?_; clear hK K)
        refine take_any _ ?_ rfl rfl ?_ (fun K hK => ?_); rotate_left; (intro w0; go_simp; (try rfl)); (go_simp; refine hK _ ?_; clear hK K)
        refine take_held _ ?_ rfl rfl (by decide) ?_ (fun K hK => ?_); rotate_left; (intro w0 hw0; obtain ⟨e0, e1, e2, e3, e4, e5⟩ := six_of hw0; go_simp; (try rfl)); (go_simp; refine hK _ ?_; clear hK K)
        refine take_any _ ?_ rfl rfl ?_ (fun K hK => ?_); rotate_left; (intro w0; go_simp; (try rfl)); (go_simp; refine hK _ ?_; clear hK K)
        refine take_any _ ?_ rfl rfl ?_ (fun K hK => ?_); rotate_left; (intro w0; go_simp; (try rfl)); (go_simp; refine hK _ ?_; clear hK K)
        refine take_any _ ?_ rfl rfl ?_ (fun K hK => ?_); rotate_left; (intro w0; go_simp; (try rfl)); (go_simp; refine hK _ ?_; clear hK K)
        refine ask_step _ rfl trivial ?_
        go_wp2_with (go_at_call 10; (with_reducible refine (knode_litw wr.heap.size wr.heap.size 4 4 rfl (by decide) (by decide) _ hdd).mono ?_); rintro e w4 ⟨⟨cs1, x1, rfl, hx1, hv1⟩, hg4, hd4⟩; obtain ⟨a1, l1, c1, a2, l2, c2, rfl⟩ := hx1.slices)
        have k4 : w4.heap[w.heap.size]? = _ := keepG hg4 (by omega) kd
        refine Seg.mk ⟨k4, ?_⟩
        refine ask_step _ rfl trivial ?_
        go_wp2_with (go_at_call 11; (with_reducible refine (kmap_litw wr.heap.size wr.heap.size 3 3 rfl (by decide) (by decide) _ hd4).mono ?_); rintro e w5 ⟨⟨cs2, x2, rfl, hx2, hm2, hi2, hvw2⟩, hg5, hd5⟩; obtain ⟨a5, l5, c5, a6, l6, c6, rfl⟩ := hx2.slices)
        have k5 : w5.heap[w.heap.size]? = _ := keepG hg5 (by omega) k4
        refine Seg.mk ⟨k5, ?_⟩
        refine ask_step _ rfl trivial ?_
        go_wp2_with (go_at_call 12; (with_reducible refine (next_lit wr.heap.size wr.heap.size 9 9 rfl _ (by decide) (by decide) hd5).mono ?_); rintro e w6 ⟨⟨k9, hk9, rfl⟩, hg6, hd6⟩)
        have k6 : w6.heap[w.heap.size]? = _ := keepG hg6 (by omega) k5
        refine Seg.mk ⟨k6, ?_⟩
        have hks : IntKind.i64.wrap ((k9 : Int) - 1) = (k9 : Int) - 1 := IntWalk.i64_in _ (by omega)
        refine take_any _ ?_ rfl rfl ?_ (fun K hK => ?_); rotate_left; (intro w0; go_simp; (try rfl)); (go_simp; refine hK _ ?_; clear hK K)
        refine ask_step _ rfl trivial ?_
        go_wp2_with (go_at_call 12; (with_reducible refine (next_lit wr.heap.size wr.heap.size 2 2 rfl _ (by decide) (by decide) hd6).mono ?_); rintro e w7 ⟨⟨k2', hk2, rfl⟩, hg7, hd7⟩)
        have k7 : w7.heap[w.heap.size]? = _ := keepG hg7 (by omega) k6
        refine Seg.mk ⟨k7, ?_⟩
        refine take_any _ ?_ rfl rfl ?_ (fun K hK => ?_); rotate_left; (intro w0; go_simp; (try rfl)); (go_simp; refine hK _ ?_; clear hK K)
        have hs4 := hg4.size
        have hs5 := hg5.size
        have hs6 := hg6.size
        have hs7 := hg7.size
        -- what the four nodes are in w7
        have m1 : NodeIn 4 (fun b => wr.heap.size < b ∧ b < w7.heap.size) w7 _ x1 := nod_grown (nod_grown (nod_grown (hx1.mono fun b hb => ⟨by omega, hb.2⟩) hg5) hg6) hg7
        have m2 : NodeIn 3 (fun b => wr.heap.size < b ∧ b < w7.heap.size) w7 _ x2 := nod_grown (nod_grown (hx2.mono fun b hb => ⟨by omega, hb.2⟩) hg6) hg7
        have hB7 : Below w.heap.size w w7 := (((hBd.grown hg4 hBd.size (fun k hk => by cases hk; omega)).grown hg5 (by omega) (fun k hk => by cases hk; omega)).grown hg6 (by omega) (fun k hk => by cases hk; omega)).grown hg7 (by omega) (fun k hk => by cases hk; omega)
        refine ask_late _ rfl trivial ?_
        go_wp2_with fail
        have bL := (Below.refl w7.heap.size w7).alloc (o := .cells #[.int .i64 x1.kind, .bool x1.bool, .int .i64 x1.num, .string x1.text, .slice a1 l1 c1, .slice a2 l2 c2, .int .i64 x2.kind, .bool x2.bool, .int .i64 x2.num, .string x2.text, .slice a5 l5 c5, .slice a6 l6 c6, .int .i64 x.kind, .bool x.bool, .int .i64 x.num, .string x.text, .slice ax lx cx, .slice ay ly cy, .int .i64 ((k9 : Int) - 1), .bool false, .int .i64 (k2' : Int), .string ⟨#[]⟩, .slice none 0 0, .slice none 0 0] 26) (Nat.le_refl _)
        have kL := heap_alloc_new w7 (.cells #[.int .i64 x1.kind, .bool x1.bool, .int .i64 x1.num, .string x1.text, .slice a1 l1 c1, .slice a2 l2 c2, .int .i64 x2.kind, .bool x2.bool, .int .i64 x2.num, .string x2.text, .slice a5 l5 c5, .slice a6 l6 c6, .int .i64 x.kind, .bool x.bool, .int .i64 x.num, .string x.text, .slice ax lx cx, .slice ay ly cy, .int .i64 ((k9 : Int) - 1), .bool false, .int .i64 (k2' : Int), .string ⟨#[]⟩, .slice none 0 0, .slice none 0 0] 26)
        have hwd2 : wideI (k2' : Int) = true := by unfold wideI; rw [Bool.and_eq_true, decide_eq_true_eq, decide_eq_true_eq]; omega
        have hall : ∀ y, y ∈ [x1, x2, x, .mk ((k9 : Int) - 1) false (k2' : Int) ⟨#[]⟩ [] []] → TryM (D + 4) y := by
          intro y hy
          simp only [List.mem_cons, List.not_mem_nil, or_false] at hy
          rcases hy with rfl | rfl | rfl | rfl
          · exact ⟨clowV (validW_valid hv1) _, FineM.of (by decide) (validW_valid hv1) (validW_nums hv1)⟩
          · have hv3 : validN 3 y = true := (mapOk_iff hm2.kind).2 hm2
            have hn3 : numsB 3 y = true := by
              rw [numsB_succ, Bool.and_eq_true, List.all_eq_true]
              exact ⟨by rw [hm2.num]; decide, fun z hz => validW_nums (hvw2 z hz)⟩
            exact ⟨clowV hv3 _, FineM.of (by decide) hv3 hn3⟩
          · exact ⟨clowV_flat HOK.out (by have := HL2.out; omega), FineM.flat HOK.out HXN.out⟩
          · exact ⟨clowV_flat (cleafK _ _) (Nat.zero_le _), FineM.flat (cleafK _ _) (cnums_leaf _ _ hwd2)⟩
        generalize w7.alloc (.cells #[.int .i64 x1.kind, .bool x1.bool, .int .i64 x1.num, .string x1.text, .slice a1 l1 c1, .slice a2 l2 c2, .int .i64 x2.kind, .bool x2.bool, .int .i64 x2.num, .string x2.text, .slice a5 l5 c5, .slice a6 l6 c6, .int .i64 x.kind, .bool x.bool, .int .i64 x.num, .string x.text, .slice ax lx cx, .slice ay ly cy, .int .i64 ((k9 : Int) - 1), .bool false, .int .i64 (k2' : Int), .string ⟨#[]⟩, .slice none 0 0, .slice none 0 0] 26) = w8 at bL kL ⊢
        have hB8 := hB7.trans (bL.mono hB7.size)
        have n1 : NodeIn (D + 4) (fun b => b < w8.heap.size) w8 _ x1 := ((m1.same fun b hb => bL.block b hb.2).mono fun b hb => Nat.lt_of_lt_of_le hb.2 bL.size).deeper (by omega)
        have n2 : NodeIn (D + 4) (fun b => b < w8.heap.size) w8 _ x2 := ((m2.same fun b hb => bL.block b hb.2).mono fun b hb => Nat.lt_of_lt_of_le hb.2 bL.size).deeper (by omega)
        have n3 : NodeIn (D + 4) (fun b => b < w8.heap.size) w8 _ x := ((HX.out.same fun b hb => hB8.block b hb).mono fun b hb => Nat.lt_of_lt_of_le hb hB8.size).deeper (by omega)
        have n4 : NodeIn (D + 4) (fun b => b < w8.heap.size) w8 [.int .i64 ((k9 : Int) - 1), .bool false, .int .i64 (k2' : Int), .string ⟨#[]⟩, .slice none 0 0, .slice none 0 0] (.mk ((k9 : Int) - 1) false (k2' : Int) ⟨#[]⟩ [] []) := (node_leaf _ w8 ((k9 : Int) - 1) false (k2' : Int) ⟨#[]⟩ (by decide)).deeper (by omega)
        have HN4 := Lib.hid (cfour_in _ _ _ _ x1 x2 x _ n1 n2 n3 n4 kL)
        obtain ⟨N4, hN4⟩ : ∃ N4, N4 = [x1, x2, x, .mk ((k9 : Int) - 1) false (k2' : Int) ⟨#[]⟩ [] []] := ⟨_, rfl⟩
        rw [← hN4] at HN4 hall
        have h4 : N4.length = 4 := by rw [hN4]; rfl
        have H4 := Lib.hid h4
        have HALL := Lib.hid hall
        have HB8 := Lib.hid hB8
        have HZ : Hid (w7.heap.size < w8.heap.size) := Lib.hid (lt_of_block kL)
        clear n1 n2 n3 n4 hN4 hall h4 hB8 kL bL m1 m2 hB7 hx1 hx2 hv1 hm2 hi2 hvw2 k4 k5 k6 k7 kd hdd hd4 hd5 hd6 hd7 hg4 hg5 hg6 hg7 hBd hks hwd2
        refine Seg.mk ?_
        refine ask_last _ rfl trivial ?_
        go_upto_region 11 with fail
        go_loopw [58] (fun i wv => ∃ j : Nat, i = .int .i64 j ∧ j ≤ 4 ∧ Below w8.heap.size w8 wv) (fun i _ => 4 - (intOf i).toNat)
        case atStart => exact ⟨0, rfl, Nat.zero_le _, Below.refl _ _⟩
        case round =>
          obtain ⟨q, rfl, hq, hB⟩ := hrel
          by_cases hlt : q < 4
          · have hlt' : (q : Int) < 4 := by omega
            have hq0 : (0 : Int) ≤ (q : Int) := by omega
            obtain ⟨-, -, -, b, off, y, a3, l3, c3, a4, l4, c4, e, hSb, hxq, hnd, k0, k1, k2, k3, k4, k5⟩ := HN4.out.at (j := q) (by have := H4.out; omega)
            cases e
            have q0 := (hB.cell (p := ⟨w7.heap.size, 0 + q * 6, none⟩) hSb).trans k0
            have q1 := (hB.cell (p := ⟨w7.heap.size, 0 + q * 6 + 1, none⟩) hSb).trans k1
            have q2 := (hB.cell (p := ⟨w7.heap.size, 0 + q * 6 + 2, none⟩) hSb).trans k2
            have q3 := (hB.cell (p := ⟨w7.heap.size, 0 + q * 6 + 3, none⟩) hSb).trans k3
            have q4 := (hB.cell (p := ⟨w7.heap.size, 0 + q * 6 + 4, none⟩) hSb).trans k4
            have q5 := (hB.cell (p := ⟨w7.heap.size, 0 + q * 6 + 5, none⟩) hSb).trans k5
            simp only [Nat.zero_add] at q0 q1 q2 q3 q4 q5
            clear k0 k1 k2 k3 k4 k5
            obtain ⟨hlow, hfine⟩ := HALL.out y (List.mem_of_getElem? hxq)
            have bA := hB.alloc (o := .cells #[.int .i64 y.kind, .bool y.bool, .int .i64 y.num, .string y.text, .slice a3 l3 c3, .slice a4 l4 c4] 26) hB.size
            have kA := heap_alloc_new wr (.cells #[.int .i64 y.kind, .bool y.bool, .int .i64 y.num, .string y.text, .slice a3 l3 c3, .slice a4 l4 c4] 26)
            have E1 := Lib.hid (fun (wx : World) (hb : Below w8.heap.size w8 wx) => mpenc_any _ y wx (hnd.same fun b hb' => hb.block b hb') (fun b hb' => Nat.lt_of_lt_of_le hb' hb.size) hlow (fun hv => (hfine.len hv).1) (HT.out.below (HB8.out.trans (hb.mono HB8.out.size))))
            have E2 := Lib.hid (fun (wx : World) (hb : Below w8.heap.size w8 wx) => mrenc_t _ y wx (hnd.same fun b hb' => hb.block b hb') (fun b hb' => Nat.lt_of_lt_of_le hb' hb.size) hlow hfine.len (HT.out.below (HB8.out.trans (hb.mono HB8.out.size))))
            unfold MEncPost at E1 E2
            obtain ⟨sy, hsy⟩ : ∃ s, s = mpS y := ⟨_, rfl⟩
            obtain ⟨ey, hey⟩ : ∃ e, e = mpE y := ⟨_, rfl⟩
            rw [← hsy, ← hey] at E1 E2
            have KA := Lib.hid kA
            have BA := Lib.hid bA
            have es1 : (sy.toList != sy.toList) = false := bne_self_eq_false _
            have es2 : (sy.toList == sy.toList) = true := beq_self_eq_true _
            have ee1 : (ey != ey) = false := bne_self_eq_false _
            clear hnd hlow hfine hxq kA bA hB hsy hey
            go_upto_region 13 with fail
            clear q0 q1 q2 q3 q4 q5
            generalize wr.alloc (.cells #[.int .i64 y.kind, .bool y.bool, .int .i64 y.num, .string y.text, .slice a3 l3 c3, .slice a4 l4 c4] 26) = wa at KA BA ⊢
            have ca := six_of KA.out
            go_upto_region 14 with (go_at_call 13; (with_reducible refine (E1.out _ BA.out).mono ?_); rintro e wb ⟨rfl, hbb⟩)
            have cb := six_of ((hbb.block _ (lt_of_block KA.out)).trans KA.out)
            have hB1 := BA.out.trans (hbb.mono BA.out.size)
            clear ca hbb
            go_wp2_with (go_at_call 14; (with_reducible refine (E2.out _ hB1).mono ?_); rintro e wc2 ⟨rfl, hbc⟩)
            have hB2 := hB1.trans (hbc.mono hB1.size)
            go_roundw
            case rel => exact ⟨q + 1, by go_num, by omega, hB2⟩
            case measure => simp [intOf]; omega
          · have hlt' : ¬ (q : Int) < 4 := by omega
            have hfin := HB8.out.trans (hB.mono HB8.out.size)
            go_wp2_with (go_at_call 8; (with_reducible refine (AW.out _ hfin).mono ?_); rintro e wf ⟨rfl, hbf⟩)
            go_ret
            exact ⟨rfl, hfin.trans (hbf.mono hfin.size)⟩
end Go.Proofs.YtdppdonaojdceaaDoor
