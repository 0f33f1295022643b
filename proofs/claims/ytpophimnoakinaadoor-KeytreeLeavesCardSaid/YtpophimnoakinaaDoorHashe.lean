/- Contract of package hash: Sum. -/
import Derived.Test.YtpophimnoakinaaDoorHashc
import Derived.Test.YtpophimnoakinaaDoorHashd
import Derived.Deep.DeepCutAuto
namespace Go.Proofs.YtpophimnoakinaaDoor
open Go.ChangeShapes Go.WideShapes Go.ChangeAt Go.RowKit
set_option linter.unusedVariables false
set_option linter.unusedSimpArgs false

theorem HL_length : HL.length = 8 := rfl
theorem bytesV_one (l : List UInt8) : ∀ v ∈ bytesV l, v.oneCell' = true := by
  intro u hu
  simp [bytesV] at hu
  obtain ⟨b, _, rfl⟩ := hu
  rfl
theorem Arr.row {w : World} {g : Nat} {T : TypeId} {xs : List Value} (h : Arr w g T xs) : Row w g T xs.length xs :=
  ⟨xs.toArray, (0, 0), h, by simp, Nat.le_refl _, by simp, .inl rfl⟩
theorem outL_take (ys : List Int) (i : Nat) (hi : i < ys.length) : outL (ys.take (i + 1)) = outL (ys.take i) ++ [byteI (ys.getD i 0 / 16777216), byteI (ys.getD i 0 / 65536), byteI (ys.getD i 0 / 256), byteI (ys.getD i 0)] := by
  rw [List.take_succ_eq_append_getElem hi]
  have e : ys.getD i 0 = ys[i] := by simp [List.getD, hi]
  rw [e]
  simp only [outL, List.flatMap_append, List.flatMap_cons, List.flatMap_nil, List.append_nil]
theorem outL_len (ys : List Int) : (outL ys).length = 4 * ys.length := by
  induction ys with
  | nil => rfl
  | cons x r ih =>
    simp only [outL, List.flatMap_cons, List.length_append, List.length_cons, List.length_nil] at ih ⊢
    rw [ih]; omega

/-- 'a[l:]' of an array of cells. -/
theorem slice_from {P : Program} (t e : TypeId) (n g l : Nat) (li : Int) (hli : li = (l : Int)) (hl : l < n) (hu : P.underlying t = some (.array n e)) (hsz : ∀ w, (sizeOf e).run P w = .ok 1 w) (w : World) :
    (Instr.sliceAt t (.pointer (some ⟨g, 0, none⟩)) (some (.int .i64 li)) none none).run P w = .ok (.slice (some ⟨g, l, none⟩) (n - l) (n - l)) w := by
  subst hli
  have ha : P.arrayLen t = n := by simp [Program.arrayLen, hu]
  have he : P.elem t = e := by simp [Program.elem, hu]
  rw [run_sliceAt_array_l w t ⟨g, 0, none⟩ (by rw [ha, he]; exact hu) .i64 (l : Int) (by omega) (by rw [ha]; omega), he, hsz]
  have hne : ¬ n = l := by omega
  simp [Result.andThen, slicedAt, ha, hne, Addr.add_lit]

def HTab (w : World) : Prop := w.rangeAt 0 0 (u32s HL)
theorem HTab.below {w w' : World} (h : HTab w) {B : Nat} (hb : Below B w w') (hB : 0 < B) : HTab w' := fun j v hv => by
  rw [hb.cell (p := ⟨0, 0 + j, none⟩) hB]; exact h j v hv
/-- Both tables, and that they lie in old blocks. -/
def STab (w : World) : Prop := KTab w ∧ HTab w ∧ 2 < w.heap.size ∧ 0 < w.heap.size
theorem STab.below {w w' : World} (h : STab w) (hb : Below w.heap.size w w') : STab w' :=
  ⟨h.1.below hb h.2.2.1, h.2.1.below hb h.2.2.2, Nat.lt_of_lt_of_le h.2.2.1 hb.size, Nat.lt_of_lt_of_le h.2.2.2 hb.size⟩

set_option maxHeartbeats 800000 in
set_option maxRecDepth 100000 in
theorem sum_any (s : ByteArray) (w : World) (hs : s.size ≤ 1099511627776) (hT : STab w) :
    Calls Tryd.prog 55 #[.string s] w fun e w' => e = .returned (.string ⟨(sumL s.data.toList).toArray⟩) ∧ Below w.heap.size w w' := by
  obtain ⟨L, hL⟩ : ∃ L, L = s.data.toList := ⟨_, rfl⟩
  have hLs : L.length = s.size := by rw [hL]; simp
  obtain ⟨m, hm⟩ : ∃ m, m = s.size / 64 := ⟨_, rfl⟩
  have hm64 : 64 * m ≤ s.size := by omega
  obtain ⟨k, hk⟩ : ∃ k, k = 64 * m := ⟨_, rfl⟩
  have hwh : (s.size : Int) - (s.size : Int) % 64 = (k : Int) := by omega
  have hks : k ≤ s.size := by omega
  obtain ⟨q1, hq1⟩ : ∃ q, s.extract 0 k = q := ⟨_, rfl⟩
  obtain ⟨q2, hq2⟩ : ∃ q, s.extract k s.size = q := ⟨_, rfl⟩
  have hq1s : q1.size = 64 * m := by rw [← hq1, ext_size _ _ _ (by omega) hks]; omega
  have hq2s : q2.size ≤ 1099511627776 := by rw [← hq2, ext_size _ _ _ hks (Nat.le_refl _)]; omega
  have hq1l : q1.data.toList = L.take (64 * m) := by rw [← hq1, ext_data, hL, ← hk]; rfl
  have hq2l : q2.data.toList = L.drop (64 * m) := by rw [← hq2, ext_data, toList_take_size, hL, hk]
  obtain ⟨p, hp⟩ : ∃ p : ByteArray, p = ⟨(padL q2.data.toList s.size).toArray⟩ := ⟨_, rfl⟩
  have hpl : p.data.toList = padL (L.drop (64 * m)) L.length := by rw [hp, ← hq2l, hLs]
  have hps : p.size = (padL (L.drop (64 * m)) L.length).length := by rw [← hpl]; simp
  obtain ⟨H0, hH0⟩ : ∃ V, V = u32s HL := ⟨_, rfl⟩
  obtain ⟨h1, hh1⟩ : ∃ h, h = runB HL (L.take (64 * m)) m := ⟨_, rfl⟩
  have h1l : h1.length = 8 := by rw [hh1]; exact runB_length _ _ HL_length _
  obtain ⟨H1, hH1⟩ : ∃ V, V = u32s h1 := ⟨_, rfl⟩
  obtain ⟨h2, hh2⟩ : ∃ h, h = runB h1 (padL (L.drop (64 * m)) L.length) ((padL (L.drop (64 * m)) L.length).length / 64) := ⟨_, rfl⟩
  have h2l : h2.length = 8 := by rw [hh2]; exact runB_length _ _ h1l _
  obtain ⟨H2, hH2⟩ : ∃ V, V = u32s h2 := ⟨_, rfl⟩
  have AB1 := Lib.hid (fun (wx : World) (hK : KTab wx) (hz : 2 < wx.heap.size) => addBlocks_any HL q1 wx HL_length hK hz)
  rw [hq1l, hq1s, show 64 * m / 64 = m by omega, ← hh1, ← hH1, ← hH0] at AB1
  have AB2 := Lib.hid (fun (wx : World) (hK : KTab wx) (hz : 2 < wx.heap.size) => addBlocks_any h1 p wx h1l hK hz)
  rw [hpl, hps, ← hh2, ← hH2, ← hH1] at AB2
  have PD := Lib.hid (fun (wx : World) => padded_any q2 s.size wx hq2s hs)
  rw [← hp] at PD
  have hH1l : H1.length = 8 := by rw [hH1, u32s_length, h1l]
  have hH11 : ∀ v ∈ H1, v.oneCell' = true := by rw [hH1]; exact u32s_one _
  have hH2l : H2.length = 8 := by rw [hH2, u32s_length, h2l]
  have hH21 : ∀ v ∈ H2, v.oneCell' = true := by rw [hH2]; exact u32s_one _
  have hRange : w.rangeAt 0 0 H0 := by rw [hH0]; exact hT.2.1
  have hH0l : H0.length = 8 := by rw [hH0, u32s_length, HL_length]
  have hres : sumL L = outL h2 := by rw [sumL_split L m (by rw [hLs, hm]), hh2, hh1]
  have g2 : ∀ j, j < 8 → H2[j]? = some (.int .u32 (h2.getD j 0)) := fun j hj => by rw [hH2]; exact u32s_get h2 j (by omega)
  have G2 := Lib.hid g2
  have HRES := Lib.hid hres
  have hRg := Lib.hid hRange
  rw [← hL]
  obtain ⟨hK, _, hz1, hz0⟩ := hT
  have KH := Lib.hid hK
  clear hm hk hm64 hL hLs hq1s hq1l hq2l hq2s hpl hps hp hH0 hH1 hh1 hH2 hh2 g2 hres hRange hK h1l
  go_enter Tryd.func55, Tryd.ntmps55
  go_upto_region 2 with fail
  clear hwh
  go_cut [4] from 14 (fun v wx => ∃ g4 : Nat, v = .pointer (some ⟨g4, 0, none⟩) ∧ w.heap.size ≤ g4 ∧ Arr wx g4 61 H1 ∧ Below w.heap.size w wx)
  case first =>
    refine wp_region_fan2 [1, 2, 3] 2 [(0, [[4, 5, 6], [5, 4, 6]]), (5, [[0, 4, 6]])] (by kernel_rfl) (by kernel_rfl) (fun _ d _ _ _ h => by cases d <;> exact h) ?_
    simp only [opsAt, List.filterMap_cons, List.filterMap_nil, List.getElem?_toArray, List.getElem?_cons_zero, List.getElem?_cons_succ]
    iterate 3 (refine steady_step ?_ ?_ ?_ (fun K hK => ?_); rotate_left; (rfl); (intro w0; go_simp; (try rfl)); (go_simp; refine hK _ ?_; clear hK K))
    refine steady_nil ?_
    have hRg' : w.drew.rangeAt 0 0 H0 := hRg.out
    have hK' : KTab w.drew := KH.out
    have hz1' : 2 < w.drew.heap.size := hz1
    have hb0 : Below w.heap.size w w.drew := (Below.refl _ _).drew
    generalize w.drew = wd at hRg' hK' hz1' hb0 ⊢
    intro p hp
    simp only [List.mem_cons, List.not_mem_nil, or_false] at hp
    rcases hp with rfl | rfl
    · refine fan_ld (o := _) rfl rfl (some 14) rfl 61 (.global 0) rfl 0 0 rfl H0 _ hRg' Tryd.underlying61 rfl (by rw [hH0l]; exact info8) ?_
      intro ts hts
      simp only [List.mem_cons, List.not_mem_nil, or_false] at hts
      rcases hts with rfl | rfl
      · simp only [opsAt, List.filterMap_cons, List.filterMap_nil, List.getElem?_toArray, List.getElem?_cons_zero, List.getElem?_cons_succ]
        change wpList _ _ _ [_, _, _] _ _
        go_wp2_with (first | (go_at_call 70; (with_reducible refine (AB1.out _ hK' hz1').mono ?_); rintro e w1 ⟨rfl, hb1⟩) | (refine wp_st rfl 61 (.tmp 4) (.tmp 18) rfl _ H1 rfl rfl (Arr.new w1 (zs 8) 61) info8 (zs_length 8) hH1l hH11 ?_))
        go_meet
        have hb2 := hb0.trans (hb1.mono hb0.size)
        exact ⟨w1.heap.size, rfl, hb2.size, (Arr.new w1 (zs 8) 61).setRow H1, below_setRow (hb2.alloc hb2.size _) _ hb2.size _⟩
      · simp only [opsAt, List.filterMap_cons, List.filterMap_nil, List.getElem?_toArray, List.getElem?_cons_zero, List.getElem?_cons_succ]
        change wpList _ _ _ [_, _, _] _ _
        go_wp2_with (first | (go_at_call 70; (with_reducible refine (AB1.out _ (hK'.below (B := wd.heap.size) ((Below.refl _ _).alloc (Nat.le_refl _) _) hz1') (by simp; omega)).mono ?_); rintro e w1 ⟨rfl, hb1⟩) | (refine wp_st rfl 61 (.tmp 4) (.tmp 18) rfl _ H1 rfl rfl ((Arr.new wd (zs 8) 61).below hb1 (by simp)) info8 (zs_length 8) hH1l hH11 ?_))
        go_meet
        exact ⟨wd.heap.size, rfl, hb0.size, ((Arr.new wd (zs 8) 61).below hb1 (by simp)).setRow H1, below_setRow ((hb0.alloc hb0.size _).trans (hb1.mono (by simp; have := hb0.size; omega))) _ hb0.size _⟩
    · refine fan_al (o := _) rfl rfl (some 4) rfl 61 rfl _ Tryd.zeroValue61 ?_
      intro ts hts
      simp only [List.mem_cons, List.not_mem_nil, or_false] at hts
      subst hts
      simp only [opsAt, List.filterMap_cons, List.filterMap_nil, List.getElem?_toArray, List.getElem?_cons_zero, List.getElem?_cons_succ]
      change wpList _ _ _ [_, _, _] _ _
      have hRa : (wd.alloc (.cells (zs 8).toArray 61)).rangeAt 0 0 H0 := World.rangeAt_alloc hRg' _
      go_wp2_with (first | (refine wpList_load_mid rfl 61 (.global 0) rfl 0 0 rfl H0 _ hRa Tryd.underlying61 rfl (by rw [hH0l]; exact info8) ?_) | (go_at_call 70; (with_reducible refine (AB1.out _ (hK'.below (B := wd.heap.size) ((Below.refl _ _).alloc (Nat.le_refl _) _) hz1') (by simp; omega)).mono ?_); rintro e w1 ⟨rfl, hb1⟩) | (refine wp_st rfl 61 (.tmp 4) (.tmp 18) rfl _ H1 rfl rfl ((Arr.new wd (zs 8) 61).below hb1 (by simp)) info8 (zs_length 8) hH1l hH11 ?_))
      go_meet
      exact ⟨wd.heap.size, rfl, hb0.size, ((Arr.new wd (zs 8) 61).below hb1 (by simp)).setRow H1, below_setRow ((hb0.alloc hb0.size _).trans (hb1.mono (by simp; have := hb0.size; omega))) _ hb0.size _⟩
  case rest =>
    obtain ⟨g4, rfl, hg4, A4, hb⟩ := hcut
    have hKc : KTab wc := KH.out.below hb hz1
    have hzc : 2 < wc.heap.size := Nat.lt_of_lt_of_le hz1 hb.size
    go_upto_region 3 with fail
    go_cut [4] from 19 (fun v wx => v = .pointer (some ⟨g4, 0, none⟩) ∧ Arr wx g4 61 H2 ∧ Below w.heap.size w wx)
    case first =>
      refine wp_region_fan [1, 2, 3, 4, 5] 3 [[0, 6, 7, 8], [6, 0, 7, 8]] (by kernel_rfl) (by kernel_rfl) (fun _ d _ _ _ h => by cases d <;> exact h) ?_
      simp only [opsAt, List.filterMap_cons, List.filterMap_nil, List.getElem?_toArray, List.getElem?_cons_zero, List.getElem?_cons_succ]
      iterate 5 (refine steady_step ?_ ?_ ?_ (fun K hK => ?_); rotate_left; (rfl); (intro w0; go_simp; (try rfl)); (go_simp; refine hK _ ?_; clear hK K))
      refine steady_nil ?_
      have A4d : Arr wc.drew g4 61 H1 := A4
      have hKd : KTab wc.drew := hKc
      have hzd : 2 < wc.drew.heap.size := hzc
      have hbd : Below w.heap.size w wc.drew := hb.drew
      generalize wc.drew = wd at A4d hKd hzd hbd ⊢
      have hgd := A4d.lt
      intro ts hts
      simp only [List.mem_cons, List.not_mem_nil, or_false] at hts
      rcases hts with rfl | rfl
      · simp only [opsAt, List.filterMap_cons, List.filterMap_nil, List.getElem?_toArray, List.getElem?_cons_zero, List.getElem?_cons_succ]
        change wpList _ _ _ [_, _, _, _] _ _
        go_wp2_with (first | (refine wp_ld rfl 61 (.tmp 4) rfl _ rfl A4d Tryd.underlying61 info8 hH1l ?_) | (go_at_call 71; (with_reducible refine (PD.out _).mono ?_); rintro e w1 ⟨rfl, hb1⟩) | (go_at_call 70; (with_reducible refine (AB2.out _ (hKd.below hb1 hzd) (Nat.lt_of_lt_of_le hzd hb1.size)).mono ?_); rintro e w2 ⟨rfl, hb2⟩) | (refine wp_st rfl 61 (.tmp 4) (.tmp 26) rfl _ H2 rfl rfl ((A4d.below hb1 hgd).below hb2 (Nat.lt_of_lt_of_le hgd hb1.size)) info8 hH1l hH2l hH21 ?_))
        go_meet
        have hb3 := hbd.trans ((hb1.mono hbd.size).trans (hb2.mono (Nat.le_trans hbd.size hb1.size)))
        exact ⟨rfl, ((A4d.below hb1 hgd).below hb2 (Nat.lt_of_lt_of_le hgd hb1.size)).setRow H2, below_setRow hb3 _ hg4 _⟩
      · simp only [opsAt, List.filterMap_cons, List.filterMap_nil, List.getElem?_toArray, List.getElem?_cons_zero, List.getElem?_cons_succ]
        change wpList _ _ _ [_, _, _, _] _ _
        go_wp2_with (first | (refine wp_ld rfl 61 (.tmp 4) rfl _ rfl (A4d.below hb1 hgd) Tryd.underlying61 info8 hH1l ?_) | (go_at_call 71; (with_reducible refine (PD.out _).mono ?_); rintro e w1 ⟨rfl, hb1⟩) | (go_at_call 70; (with_reducible refine (AB2.out _ (hKd.below hb1 hzd) (Nat.lt_of_lt_of_le hzd hb1.size)).mono ?_); rintro e w2 ⟨rfl, hb2⟩) | (refine wp_st rfl 61 (.tmp 4) (.tmp 26) rfl _ H2 rfl rfl ((A4d.below hb1 hgd).below hb2 (Nat.lt_of_lt_of_le hgd hb1.size)) info8 hH1l hH2l hH21 ?_))
        go_meet
        have hb3 := hbd.trans ((hb1.mono hbd.size).trans (hb2.mono (Nat.le_trans hbd.size hb1.size)))
        exact ⟨rfl, ((A4d.below hb1 hgd).below hb2 (Nat.lt_of_lt_of_le hgd hb1.size)).setRow H2, below_setRow hb3 _ hg4 _⟩
    case rest =>
      clear A4 hb hKc hzc
      obtain ⟨rfl, A4, hb⟩ := hcut
      have A4' := A4.alloc (.cells (List.replicate 32 (Value.int .u8 0)).toArray 79)
      go_wp2_with (refine wp_ld rfl 61 (.tmp 4) rfl _ rfl A4' Tryd.underlying61 info8 hH2l ?_)
      go_loopw [28] (fun i wr => ∃ j : Nat, j ≤ 8 ∧ i = .int .i64 j ∧ Arr wr wc.heap.size 79 (bytesV (outL (h2.take j)) ++ List.replicate (32 - 4 * j) (.int .u8 0)) ∧ Below w.heap.size w wr) (fun i _ => 8 - (intOf i).toNat)
      case atStart =>
        exact ⟨0, by omega, rfl, Arr.new wc (List.replicate 32 (Value.int .u8 0)) 79, hb.alloc hb.size _⟩
      case round =>
        have hcs := hb.size
        clear A4 A4' hb
        obtain ⟨j, hj, rfl, hA, hb⟩ := hrel
        by_cases hlt : j < 8
        · obtain ⟨x, hx⟩ : ∃ x, h2.getD j 0 = x := ⟨_, rfl⟩
          have gj := G2.out j hlt
          rw [hx] at gj
          have hix := run_index_agg (P := Tryd.prog) 61 60 8 H2 j _ Tryd.underlying61 hlt Tryd.isAgg60 Tryd.sizeOf60 gj
          have hOL := outL_take h2 j (by omega)
          rw [hx] at hOL
          have hlo : (outL (h2.take j)).length = 4 * j := by rw [outL_len, List.length_take, h2l]; omega
          obtain ⟨o, ho⟩ : ∃ o, o = 4 * j := ⟨_, rfl⟩
          have hrp : List.replicate (32 - 4 * j) (Value.int .u8 0) = [.int .u8 0, .int .u8 0, .int .u8 0, .int .u8 0] ++ List.replicate (32 - 4 * (j + 1)) (.int .u8 0) := by
            rw [show 32 - 4 * j = 4 + (32 - 4 * (j + 1)) by omega, ← List.replicate_append_replicate]; rfl
          rw [hrp] at hA
          have PW := Lib.hid (putWord_any wc.heap.size (4 * j) (32 - 4 * j) (32 - 4 * j) x 79 _ wr hA (by simp [bytesV, hlo]) (by omega) (by unfold maxLen; omega) (Nat.le_refl _))
          have hA' : Arr (put4 wr wc.heap.size (4 * j) x) wc.heap.size 79 (bytesV (outL (h2.take (j + 1))) ++ List.replicate (32 - 4 * (j + 1)) (.int .u8 0)) := by
            have := put4_arr (x := x) hA (o := 4 * j) (by rw [bytesV_length, hlo])
            rw [hOL, bytesV_append, List.append_assoc]
            exact this
          have HA := Lib.hid hA'
          have i64a : (j : Int) < 8 := by omega
          have hsl : (Instr.sliceAt 79 (.pointer (some ⟨wc.heap.size, 0, none⟩)) (some (.int .i64 (4 * (j : Int)))) none none).run Tryd.prog wr = .ok (.slice (some ⟨wc.heap.size, 4 * j, none⟩) (32 - 4 * j) (32 - 4 * j)) wr := slice_from 79 5 32 wc.heap.size (4 * j) (4 * (j : Int)) (by push_cast; rfl) (by omega) Tryd.underlying79 Tryd.sizeOf5 wr
          clear hA' hrp hlo hOL gj hx hA ho
          go_wp2_with (go_at_call 72; (with_reducible refine PW.out.mono ?_); rintro e w6 ⟨rfl, rfl⟩)
          go_roundw
          case rel => exact ⟨j + 1, by omega, rfl, HA.out, put4_below hb (by omega)⟩
          case measure => simp [intOf]; omega
        · obtain rfl : j = 8 := by omega
          have hA1 : Arr wr wc.heap.size 79 (bytesV (outL h2)) := by
            have := hA
            rw [List.take_of_length_le (by omega)] at this
            simpa using this
          have hol : (outL h2).length = 32 := outL_length h2l
          have hrw := hA1.row
          rw [bytesV_length, hol] at hrw
          have hcv := conv_row (P := Tryd.prog) wr 35 9 5 wc.heap.size 79 32 32 (outL h2) hol hrw Tryd.underlying35 Tryd.underlying5 Tryd.underlying9
          have HE : Hid ((⟨(outL h2).toArray⟩ : ByteArray) = ⟨(sumL L).toArray⟩) := Lib.hid (by rw [HRES.out])
          obtain ⟨OS, hOS⟩ : ∃ OS : ByteArray, OS = ⟨(outL h2).toArray⟩ := ⟨_, rfl⟩
          rw [← hOS] at hcv HE
          clear hOS hrw hA1 hA hol
          go_wp2
          go_ret
          exact ⟨by rw [HE.out]; rfl, hb⟩

end Go.Proofs.YtpophimnoakinaaDoor
