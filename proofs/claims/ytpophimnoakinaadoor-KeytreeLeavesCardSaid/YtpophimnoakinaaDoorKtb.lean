/- The program's tree of a key; the public key, as bytes and as texts. -/
import Derived.Test.YtpophimnoakinaaDoorKta
namespace Go.Proofs.YtpophimnoakinaaDoor
open Go.ChangeShapes Go.WideShapes Go.ChangeAt Go.RowKit
set_option linter.unusedVariables false
set_option linter.unusedSimpArgs false

theorem Tryd.infoarr : (Tryd.prog.info? 38).map (·.size) = some 16 := by kernel_rfl
theorem grS_some (seed : ByteArray) (lo hi p : Nat) (h : p < 16) : ∃ u, (grS seed lo hi)[p]? = some u := ⟨_, List.getElem?_eq_getElem (by rw [grS_length]; exact h)⟩
theorem grS_one {seed : ByteArray} {lo hi : Nat} : ∀ v ∈ grS seed lo hi, v.oneCell' = true := by
  intro v hv
  simp only [grS, List.mem_map] at hv
  obtain ⟨p, -, rfl⟩ := hv
  rfl
/-- An empty tree. -/
def z16 : List Value := List.replicate 16 (.string ⟨#[]⟩)
set_option maxHeartbeats 1600000 in
set_option maxRecDepth 100000 in
theorem grow_any (seed : ByteArray) (w : World) (hs : seed.size ≤ 999990) (hT : STab w) : Calls Tryd.prog 31 #[.string seed] w fun e w' => e = .returned (.agg (grS seed 1 16).toArray) ∧ Below w.heap.size w w' := by
  have LF := Lib.hid (fun (wx : World) (u : Int) (h : STab wx) => leaf12_any seed u wx hs h)
  have JN := Lib.hid (fun (wx : World) (a b : ByteArray) (ha : a.size = 16) (hb : b.size = 16) (h : STab wx) => join_any a b wx (by omega) (by omega) h)
  have b0 := (((Below.refl w.heap.size w).alloc (o := .cells z16.toArray 38) (Nat.le_refl _)).alloc (o := .cells z16.toArray 38) (by simp))
  have a0 := (Arr.new w z16 38).alloc (.cells z16.toArray 38)
  have a1 : Arr ((w.alloc (.cells z16.toArray 38)).alloc (.cells z16.toArray 38)) (w.heap.size + 1) 38 (grS seed 8 (8 + 0)) := by
    rw [show 8 + 0 = 8 from rfl, grS_zero seed]
    exact Arr.new2 w (.cells z16.toArray 38) z16 38
  have HT := Lib.hid hT
  clear hT
  go_enter Tryd.func31, Tryd.ntmps31
  go_wp2
  go_loopw [7] (fun i wr => ∃ j : Nat, j ≤ 8 ∧ i = .int .i64 j ∧ Arr wr w.heap.size 38 z16 ∧ Arr wr (w.heap.size + 1) 38 (grS seed 8 (8 + j)) ∧ Below w.heap.size w wr) (fun i _ => 8 - (intOf i).toNat)
  case atStart => exact ⟨0, Nat.zero_le _, rfl, a0, a1, b0⟩
  case round =>
    clear a0 a1 b0
    obtain ⟨j, hj, rfl, hA0, hA1, hb⟩ := hrel
    have hbs := hb.size
    by_cases hlt : j < 8
    · have L1 := Lib.hid (LF.out wr j (stab_of HT.out hb (Nat.le_refl _)))
      rw [← plB_leaf] at L1
      have hset := grS_hi seed j hlt
      obtain ⟨q, hq⟩ : ∃ q, q = 8 + j := ⟨_, rfl⟩
      have i1 : (8 : Int) + (j : Int) = (q : Int) := by omega
      have hq16 : (q : Int) < 16 := by omega
      rw [← hq] at L1 hA1 hset
      obtain ⟨u, hu⟩ := grS_some seed 8 q q (by omega)
      obtain ⟨x, hx⟩ : ∃ x, x = plB seed q := ⟨_, rfl⟩
      rw [← hx] at L1 hset
      have HS := Lib.hid hset
      clear hset hx hq
      go_wp2_with (go_at_call 8; (with_reducible refine L1.out.mono ?_); rintro e w1 ⟨rfl, hb1⟩; have hA0' := hA0.below hb1 hA0.lt; have hA1' := hA1.below hb1 hA1.lt; have c1 := hA1'.cellAt hu; have f1 := hA1'.free q; have b1 := hb.trans (hb1.mono hb.size))
      go_roundw
      case rel => exact ⟨j + 1, by omega, by go_num, hA0'.beside _ _ (by simp), by rw [← HS.out]; exact hA1'.store q _, b1.setCell (p := ⟨w.heap.size + 1, q, none⟩) (by simp) _⟩
      case measure => simp [intOf]; omega
    · obtain rfl : j = 8 := by omega
      go_upto_region 8 with fail
      have hA2 : Arr wr (w.heap.size + 1) 38 (grS seed (8 - 0) 16) := hA1
      clear hA1
      obtain ⟨i8, hi8⟩ : ∃ i8 : Value, i8 = .int .i64 ((8 : Nat) : Int) := ⟨_, rfl⟩
      try rw [← hi8]
      try (rw [show (8 : Int) = ((8 : Nat) : Int) from rfl, ← hi8])
      clear hi8
      go_loopw [17] (fun i wr => ∃ j : Nat, j ≤ 7 ∧ i = .int .i64 j ∧ Arr wr w.heap.size 38 z16 ∧ Arr wr (w.heap.size + 1) 38 (grS seed (8 - j) 16) ∧ Below w.heap.size w wr) (fun i _ => 7 - (intOf i).toNat)
      case atStart => exact ⟨0, Nat.zero_le _, rfl, hA0, hA2, hb⟩
      case round =>
        clear hA0 hA2 hb hbs
        obtain ⟨j, hj, rfl, hA0, hA1, hb⟩ := hrel
        have hbs := hb.size
        by_cases hlt : j < 7
        · have hset := grS_lo seed j hlt
          have hnode := plB_node seed (7 - j) (by omega) (by omega)
          have g1 := grS_get seed (8 - j) 16 (2 * (7 - j)) (by omega) (by omega) (by omega)
          have g2 := grS_get seed (8 - j) 16 (2 * (7 - j) + 1) (by omega) (by omega) (by omega)
          have s1 := plB_size seed (2 * (7 - j))
          have s2 := plB_size seed (2 * (7 - j) + 1)
          obtain ⟨p, hp⟩ : ∃ p, p = 7 - j := ⟨_, rfl⟩
          obtain ⟨l, hl⟩ : ∃ l, l = 2 * (7 - j) := ⟨_, rfl⟩
          obtain ⟨r, hr⟩ : ∃ r, r = 2 * (7 - j) + 1 := ⟨_, rfl⟩
          rw [← hr] at g2 s2 hnode
          rw [← hl] at g1 s1 hnode
          rw [← hp] at hset hnode
          obtain ⟨u, hu⟩ := grS_some seed (8 - j) 16 p (by omega)
          have c1 := hA1.cellAt g1
          have c2 := hA1.cellAt g2
          have i1 : (7 : Int) - (j : Int) = (p : Int) := by omega
          have i2 : (2 : Int) * (p : Int) = (l : Int) := by omega
          have i3 : (l : Int) + 1 = (r : Int) := by omega
          have l16 : (l : Int) < 16 := by omega
          have r16 : (r : Int) < 16 := by omega
          have p16 : (p : Int) < 16 := by omega
          have J1 := Lib.hid (fun (wx : World) (h : STab wx) => JN.out wx _ _ s1 s2 h)
          rw [hnode] at J1
          obtain ⟨z, hz⟩ : ∃ z, z = plB seed p := ⟨_, rfl⟩
          rw [← hz] at J1 hset
          obtain ⟨x, hx⟩ : ∃ x, x = plB seed l := ⟨_, rfl⟩
          rw [← hx] at J1 c1
          obtain ⟨y, hy⟩ : ∃ y, y = plB seed r := ⟨_, rfl⟩
          rw [← hy] at J1 c2
          have HS := Lib.hid hset
          have HA0 := Lib.hid hA0
          have HA1 := Lib.hid hA1
          have HU := Lib.hid hu
          have WL : Hid (IntKind.i64.wrap (l : Int) = (l : Int)) := Lib.hid (by rw [IntKind.wrap_i64]; omega)
          have WR : Hid (IntKind.i64.wrap (r : Int) = (r : Int)) := Lib.hid (by rw [IntKind.wrap_i64]; omega)
          clear hset hz hx hy hp hl hr hnode g1 g2 s1 s2 hA0 hA1 hu
          go_upto_region 11 with fail
          refine wp_region_plan (fun w' => w'.cell? ⟨w.heap.size + 1, l, none⟩ = some (.string x) ∧ w'.cell? ⟨w.heap.size + 1, r, none⟩ = some (.string y)) [4, 9] (.take 0 (.take 1 (.take 2 (.take 3 (.take 4 (.take 5 (.take 6 (.take 7 (.take 8 (.take 9 (.ask 10 false (.take 11 (.ask 12 false .stop .stop)) .stop))))))))))) (by kernel_rfl) (by kernel_rfl) (fun _ d _ _ _ h => by cases d <;> exact h) ⟨c1, c2⟩ ?_
          have hA0 : Arr wr.drew w.heap.size 38 z16 := HA0.out.drew
          have hA1 : Arr wr.drew (w.heap.size + 1) 38 (grS seed (8 - j) 16) := HA1.out.drew
          have hbd := hb.drew
          clear hb hbs c1 c2
          generalize wr.drew = wd at hA0 hA1 hbd ⊢
          refine take_any _ ?_ rfl rfl ?_ (fun K hK => ?_); rotate_left; (intro w0; go_simp; (try rfl)); (go_simp; refine hK _ ?_; clear hK K)
          refine take_any _ ?_ rfl rfl ?_ (fun K hK => ?_); rotate_left; (intro w0; go_simp; (try rfl)); (go_simp; refine hK _ ?_; clear hK K)
          refine take_any _ ?_ rfl rfl ?_ (fun K hK => ?_); rotate_left; (intro w0; go_simp; (try rfl)); (go_simp; refine hK _ ?_; clear hK K)
          rw [WL.out]
          refine take_any _ ?_ rfl rfl ?_ (fun K hK => ?_); rotate_left; (intro w0; go_simp; (try rfl)); (go_simp; refine hK _ ?_; clear hK K)
          refine take_held _ ?_ rfl rfl (by decide) ?_ (fun K hK => ?_); rotate_left; (intro w0 hw0; go_simp; (try rfl)); (go_simp; refine hK _ ?_; clear hK K)
          refine take_any _ ?_ rfl rfl ?_ (fun K hK => ?_); rotate_left; (intro w0; go_simp; (try rfl)); (go_simp; refine hK _ ?_; clear hK K)
          refine take_any _ ?_ rfl rfl ?_ (fun K hK => ?_); rotate_left; (intro w0; go_simp; (try rfl)); (go_simp; refine hK _ ?_; clear hK K)
          rw [WL.out]
          refine take_any _ ?_ rfl rfl ?_ (fun K hK => ?_); rotate_left; (intro w0; go_simp; (try rfl)); (go_simp; refine hK _ ?_; clear hK K)
          rw [WR.out]
          refine take_any _ ?_ rfl rfl ?_ (fun K hK => ?_); rotate_left; (intro w0; go_simp; (try rfl)); (go_simp; refine hK _ ?_; clear hK K)
          refine take_held _ ?_ rfl rfl (by decide) ?_ (fun K hK => ?_); rotate_left; (intro w0 hw0; go_simp; (try rfl)); (go_simp; refine hK _ ?_; clear hK K)
          refine ask_late _ rfl trivial ?_; go_wp2_with (go_at_call 58; (with_reducible refine (J1.out _ (stab_of HT.out hbd (Nat.le_refl _))).mono ?_); rintro e w3 ⟨rfl, hb3⟩); refine Seg.mk ?_
          have A03 := hA0.below hb3 hA0.lt
          have A13 := hA1.below hb3 hA1.lt
          have b3 := hbd.trans (hb3.mono hbd.size)
          have c3 := A13.cellAt HU.out
          have f3 := A13.free p
          refine take_any _ ?_ rfl rfl ?_ (fun K hK => ?_); rotate_left; (intro w0; go_simp; (try rfl)); (go_simp; refine hK _ ?_; clear hK K)
          refine ask_last _ rfl trivial ?_
          go_wp2
          go_roundw
          case rel => exact ⟨j + 1, by omega, by go_num, A03.beside _ _ (by simp), by rw [← HS.out]; exact A13.store p _, b3.setCell (p := ⟨w.heap.size + 1, p, none⟩) (by simp) _⟩
          case measure => simp [intOf]; omega
        · obtain rfl : j = 7 := by omega
          have hA2 : Arr wr (w.heap.size + 1) 38 (grS seed 1 16) := hA1
          go_wp2_with (first
            | (refine wp_ld rfl 38 (.tmp 3) rfl _ rfl hA2 Tryd.underlying38 Tryd.infoarr (grS_length _ _ _) ?_)
            | (refine wp_st rfl 38 (.tmp 2) (.tmp 35) rfl _ (grS seed 1 16) rfl rfl hA0 Tryd.infoarr (by rfl) (grS_length _ _ _) grS_one ?_))
          have hnw := hA0.setRow (grS seed 1 16)
          refine bodyPost_ret (v := .agg (grS seed 1 16).toArray) (res_arr rfl _ _ _ rfl hnw Tryd.underlying38 Tryd.infoarr (grS_length _ _ _)) rfl ⟨rfl, below_setRow hb _ (Nat.le_refl _) _⟩
set_option maxRecDepth 100000 in
theorem public12_any (seed : ByteArray) (w : World) (hs : seed.size ≤ 999990) (hT : STab w) : Calls Tryd.prog 10 #[.string seed] w fun e w' => e = .returned (.string (pkB seed)) ∧ Below w.heap.size w w' := by
  have G := Lib.hid (grow_any seed w hs hT)
  have g1 := grS_get seed 1 16 1 (by decide) (by decide) (by decide)
  have hz := plB_size seed 1
  have hp : pkB seed = topB (plB seed 1) := by rw [plB_top]; rfl
  rw [hp]
  obtain ⟨t, ht⟩ : ∃ t, t = plB seed 1 := ⟨_, rfl⟩
  rw [← ht] at g1 hz ⊢
  obtain ⟨V, hV⟩ : ∃ V, V = grS seed 1 16 := ⟨_, rfl⟩
  rw [← hV] at G g1
  have IX := run_index_agg (P := Tryd.prog) 38 9 16 V 1 _ Tryd.underlying38 (by decide) Tryd.isAgg9 Tryd.sizeOf9 g1
  have K := Lib.hid (fun (wx : World) (h : STab wx) => keyOf_any t wx hz h)
  have HT := Lib.hid hT
  generalize topB t = r at K ⊢
  have IX1 : ∀ w, (Instr.index 38 (.agg V.toArray) (.int .i64 1)).run Tryd.prog w = .ok (.string t) w := IX
  clear ht hV hz hT hp g1 IX
  go_enter Tryd.func10, Tryd.ntmps10
  go_wp2_with (first
    | (go_at_call 31; (with_reducible refine G.out.mono ?_); rintro e w1 ⟨rfl, hb1⟩)
    | (go_at_call 30; (with_reducible refine (K.out _ (HT.out.below hb1)).mono ?_); rintro e w2 ⟨rfl, hb2⟩))
  go_ret
  exact ⟨rfl, hb1.trans (hb2.mono hb1.size)⟩
end Go.Proofs.YtpophimnoakinaaDoor
