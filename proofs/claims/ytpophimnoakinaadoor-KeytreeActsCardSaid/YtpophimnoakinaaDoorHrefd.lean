/- Contract of the document's own Sum. -/
import Derived.Test.YtpophimnoakinaaDoorHashe
import Derived.Test.YtpophimnoakinaaDoorHrefc
namespace Go.Proofs.YtpophimnoakinaaDoor
open Go.ChangeShapes Go.WideShapes Go.ChangeAt Go.RowKit
set_option linter.unusedVariables false
set_option linter.unusedSimpArgs false

set_option maxHeartbeats 800000 in
set_option maxRecDepth 100000 in
theorem rsum_any (s : ByteArray) (w : World) (hs : s.size ≤ 1099511627776) :
    Calls Tryd.prog 24 #[.string s] w fun e w' => e = .returned (.string ⟨(sumL s.data.toList).toArray⟩) ∧ Below w.heap.size w w' := by
  obtain ⟨L, hL⟩ : ∃ L, L = s.data.toList := ⟨_, rfl⟩
  have hLs : L.length = s.size := by rw [hL]; simp
  obtain ⟨PL, hPL⟩ : ∃ PL, PL = padL L L.length := ⟨_, rfl⟩
  obtain ⟨p, hp⟩ : ∃ p : ByteArray, p = ⟨PL.toArray⟩ := ⟨_, rfl⟩
  have hpl : p.data.toList = PL := by rw [hp]
  have hps : p.size = PL.length := by rw [← hpl]; simp
  obtain ⟨N, hN⟩ : ∃ N, PL.length = 64 * N := ⟨PL.length / 64, by have := padL_whole L; rw [← hPL] at this; omega⟩
  have hNb : N ≤ 17179869200 := by have := padL_length L L.length; rw [← hPL] at this; omega
  have hSum : Hid (outL (runB HL PL N) = sumL L) := Lib.hid (by unfold sumL; rw [← hPL, hN]; congr 2; omega)
  have PD := Lib.hid (fun (wx : World) => pad_any s wx hs)
  rw [← hL, show padL L s.size = PL by rw [hPL, hLs], ← hp] at PD
  obtain ⟨KV, hKV⟩ : ∃ V, V = u32s KL := ⟨_, rfl⟩
  have hKl : KV.length = 64 := by rw [hKV, u32s_length]; exact KL_length
  have hK1 : ∀ v ∈ KV, v.oneCell' = true := by rw [hKV]; exact u32s_one _
  obtain ⟨H0, hH0⟩ : ∃ V, V = u32s HL := ⟨_, rfl⟩
  have hH0l : H0.length = 8 := by rw [hH0, u32s_length, HL_length]
  have hH01 : ∀ v ∈ H0, v.oneCell' = true := by rw [hH0]; exact u32s_one _
  have FI := Lib.hid (fun (wx : World) => first_any wx)
  rw [← hH0] at FI
  have CO := Lib.hid (fun (wx : World) => constants_any wx)
  rw [← hKV] at CO
  have BL := Lib.hid (fun (n : Nat) (q : ByteArray) (hq : q.size = 64) (hql : q.data.toList = blk PL n) (wx : World) => block_any (runB HL PL n) q wx (runB_length _ _ HL_length n) hq)
  rw [← hKV] at BL
  have HH0 := Lib.hid hH0
  have hpz : p.size = 64 * N := by omega
  have HPL := Lib.hid hpl
  rw [← hL]
  clear hL hLs hPL hp hps hN hpl hKV hH0
  go_enter Tryd.func24, Tryd.ntmps24
  go_wp2_with (first | (go_at_call 48; (with_reducible refine (FI.out _).mono ?_); rintro e w1 ⟨rfl, hb1⟩) | (go_at_call 49; (with_reducible refine (CO.out _).mono ?_); rintro e w2 ⟨rfl, hb2⟩) | (go_at_call 50; (with_reducible refine (PD.out _).mono ?_); rintro e w3 ⟨rfl, hb3⟩) | (refine wp_st rfl 61 (.tmp 3) (.tmp 10) rfl _ H0 rfl rfl ((Arr.new w3 (zs 8) 61).alloc _) info8 (zs_length 8) hH0l hH01 ?_) | (refine wp_st rfl 63 (.tmp 4) (.tmp 11) rfl _ KV rfl rfl ((Arr.new2 w3 _ (zs 64) 63).besideRow _ _ (by omega)) info64 (zs_length 64) hKl hK1 ?_))
  have hb : Below w.heap.size w w3 := hb1.trans ((hb2.mono hb1.size).trans (hb3.mono (Nat.le_trans hb1.size hb2.size)))
  have hw3 : w.heap.size ≤ w3.heap.size := hb.size
  go_loopw [6] (fun i wr => ∃ n : Nat, n ≤ N ∧ i = .int .i64 (64 * (n : Int)) ∧ Arr wr w3.heap.size 61 (u32s (runB HL PL n)) ∧ Arr wr (w3.heap.size + 1) 63 KV ∧ Below w.heap.size w wr) (fun i _ => 64 * N - (intOf i).toNat)
  case atStart =>
    refine ⟨0, by omega, rfl, ?_, ?_, ?_⟩
    · have := (((Arr.new w3 (zs 8) 61).alloc (.cells (zs 64).toArray 63)).setRow H0).besideRow (w3.heap.size + 1) KV.toArray (by omega)
      rw [HH0.out] at this ⊢
      exact this
    · exact ((Arr.new2 w3 _ (zs 64) 63).besideRow _ _ (by omega)).setRow KV
    · exact below_setRow (below_setRow ((hb.alloc hb.size _).alloc (by simp; omega) _) _ hw3 _) _ (by omega) _
  case round =>
    clear hb hb1 hb2 hb3 PD FI CO
    obtain ⟨n, hn, rfl, A3, A4, hb⟩ := hrel
    by_cases hlt : n < N
    · have hi1 : (64 * (n : Int)) < (p.size : Int) := by omega
      obtain ⟨q, hq⟩ : ∃ q, p.extract (64 * n) (64 * n + 64) = q := ⟨_, rfl⟩
      have hqs : q.size = 64 := by rw [← hq, ext_size _ _ _ (by omega) (by omega)]; omega
      have hql : q.data.toList = blk PL n := by rw [← hq, ext_data, HPL.out]; unfold blk; rw [List.drop_take]; congr 1; omega
      obtain ⟨YV, hYV⟩ : ∃ V, V = u32s (runB HL PL n) := ⟨_, rfl⟩
      obtain ⟨CV, hCV⟩ : ∃ V, V = u32s (runB HL PL (n + 1)) := ⟨_, rfl⟩
      have hYl : YV.length = 8 := by rw [hYV, u32s_length, runB_length _ _ HL_length n]
      have hCl : CV.length = 8 := by rw [hCV, u32s_length, runB_length _ _ HL_length (n + 1)]
      have hC1 : ∀ v ∈ CV, v.oneCell' = true := by rw [hCV]; exact u32s_one _
      have BK := Lib.hid (BL.out n q hqs hql)
      rw [hql, show cmpI (runB HL PL n) (wOf (blk PL n)) = runB HL PL (n + 1) from rfl, ← hYV, ← hCV] at BK
      rw [← hYV] at A3
      have HC := Lib.hid hCV
      obtain ⟨m, hm⟩ : ∃ m : Nat, m = 64 * n := ⟨_, rfl⟩
      rw [show (64 * (n : Int)) = (m : Int) by omega]
      rw [← hm] at hq
      have hmp : (m : Int) < (p.size : Int) := by omega
      have hmp2 : (m : Int) + 64 ≤ (p.size : Int) := by omega
      have hmw : IntKind.i64.wrap ((m : Int) + 64) = (m : Int) + 64 := by rw [IntKind.wrap_i64]; omega
      have hmt : ((m : Int) + 64).toNat = m + 64 := by omega
      have hm0 : (0 : Int) ≤ (m : Int) + 64 := by omega
      have hml : (m : Int) ≤ (m : Int) + 64 := by omega
      have HM := Lib.hid hm
      clear hql hYV hCV hqs hm hi1 hpz
      go_wp2
      refine wp_region_fan [2, 3, 4, 5, 6] 3 [[0, 1, 7, 8], [1, 0, 7, 8]] (by kernel_rfl) (by kernel_rfl) (fun _ d _ _ _ h => by cases d <;> exact h) ?_
      simp only [opsAt, List.filterMap_cons, List.filterMap_nil, List.getElem?_toArray, List.getElem?_cons_zero, List.getElem?_cons_succ]
      iterate 5 (refine steady_step ?_ ?_ ?_ (fun K hK => ?_); rotate_left; (rfl); (intro w0; go_simp; (try rfl)); (go_simp; refine hK _ ?_; clear hK K))
      refine steady_nil ?_
      have A3d : Arr wr.drew w3.heap.size 61 YV := A3
      have A4d : Arr wr.drew (w3.heap.size + 1) 63 KV := A4
      have hbd : Below w.heap.size w wr.drew := hb.drew
      generalize wr.drew = wd at A3d A4d hbd ⊢
      have h3d := A3d.lt
      have h4d := A4d.lt
      intro ts hts
      simp only [List.mem_cons, List.not_mem_nil, or_false] at hts
      rcases hts with rfl | rfl
      · simp only [opsAt, List.filterMap_cons, List.filterMap_nil, List.getElem?_toArray, List.getElem?_cons_zero, List.getElem?_cons_succ]
        change wpList _ _ _ [_, _, _, _] _ _
        go_wp2_with (first | (refine wp_ld rfl 61 (.tmp 3) rfl _ rfl A3d Tryd.underlying61 info8 hYl ?_) | (refine wp_ld rfl 63 (.tmp 4) rfl _ rfl A4d Tryd.underlying63 info64 hKl ?_) | (go_at_call 51; (with_reducible refine (BK.out _).mono ?_); rintro e w5 ⟨rfl, hb5⟩) | (refine wp_st rfl 61 (.tmp 3) (.tmp 27) rfl _ CV rfl rfl (A3d.below hb5 h3d) info8 hYl hCl hC1 ?_))
        go_roundw
        case rel =>
          refine ⟨n + 1, by omega, ?_, ?_, (A4d.below hb5 h4d).besideRow _ _ (by omega), below_setRow (hbd.trans (hb5.mono hbd.size)) _ hw3 _⟩
          · have := HM.out; congr 1; omega
          · rw [← HC.out]; exact (A3d.below hb5 h3d).setRow CV
        case measure => have := HM.out; simp [intOf]; omega
      · simp only [opsAt, List.filterMap_cons, List.filterMap_nil, List.getElem?_toArray, List.getElem?_cons_zero, List.getElem?_cons_succ]
        change wpList _ _ _ [_, _, _, _] _ _
        go_wp2_with (first | (refine wp_ld rfl 61 (.tmp 3) rfl _ rfl A3d Tryd.underlying61 info8 hYl ?_) | (refine wp_ld rfl 63 (.tmp 4) rfl _ rfl A4d Tryd.underlying63 info64 hKl ?_) | (go_at_call 51; (with_reducible refine (BK.out _).mono ?_); rintro e w5 ⟨rfl, hb5⟩) | (refine wp_st rfl 61 (.tmp 3) (.tmp 27) rfl _ CV rfl rfl (A3d.below hb5 h3d) info8 hYl hCl hC1 ?_))
        go_roundw
        case rel =>
          refine ⟨n + 1, by omega, ?_, ?_, (A4d.below hb5 h4d).besideRow _ _ (by omega), below_setRow (hbd.trans (hb5.mono hbd.size)) _ hw3 _⟩
          · have := HM.out; congr 1; omega
          · rw [← HC.out]; exact (A3d.below hb5 h3d).setRow CV
        case measure => have := HM.out; simp [intOf]; omega
    · obtain rfl : n = N := by omega
      rw [show (64 * (n : Int)) = (p.size : Int) by omega]
      obtain ⟨h2, hh2⟩ : ∃ h, h = runB HL PL n := ⟨_, rfl⟩
      have h2l : h2.length = 8 := by rw [hh2]; exact runB_length _ _ HL_length _
      obtain ⟨H2, hH2⟩ : ∃ V, V = u32s h2 := ⟨_, rfl⟩
      have hH2l : H2.length = 8 := by rw [hH2, u32s_length, h2l]
      have G2 : Hid (∀ j, j < 8 → H2[j]? = some (.int .u32 (h2.getD j 0))) := Lib.hid (fun j hj => by rw [hH2]; exact u32s_get h2 j (by omega))
      rw [← hh2, ← hH2] at A3
      have HS : Hid (outL h2 = sumL L) := Lib.hid (by rw [hh2]; exact hSum.out)
      obtain ⟨i0, hi, hz0, hz1, hz2⟩ := info_parts Tryd.infob
      clear hH2 hh2 hpz
      go_wp2_with (refine wp_ld rfl 61 (.tmp 3) rfl _ rfl A3 Tryd.underlying61 info8 hH2l ?_)
      go_loopw [7, 29] (fun v i wr => ∃ j : Nat, ∃ ao sl sc, j ≤ 8 ∧ i = .int .i64 j ∧ v = .slice ao sl sc ∧ wr.ownsRow w.heap.size 5 1 v (4 * j) (bytesV (outL (h2.take j))) ∧ Below w.heap.size w wr) (fun _ i _ => 8 - (intOf i).toNat)
      case atStart => exact ⟨0, none, 0, 0, by omega, rfl, rfl, World.ownsRow_nil _ _ _ _, hb⟩
      case round =>
        clear A3 A4 hb
        obtain ⟨j, ao, sl, sc, hj, rfl, rfl, hO, hb⟩ := hrel
        have hbs := hb.size
        by_cases hlt8 : j < 8
        · obtain ⟨x, hx⟩ : ∃ x, h2.getD j 0 = x := ⟨_, rfl⟩
          have gj := G2.out j hlt8
          rw [hx] at gj
          have hix := run_index_agg (P := Tryd.prog) 61 60 8 H2 j _ Tryd.underlying61 hlt8 Tryd.isAgg60 Tryd.sizeOf60 gj
          have hOL := outL_take h2 j (by omega)
          rw [hx] at hOL
          have HOL := Lib.hid hOL
          have i64a : (j : Int) < 8 := by omega
          clear hOL gj hx
          go_wp2_with (at_builtin; refine wpList_append_own _ rfl (.tmp 32) (.tmp 44) 35 rfl w.heap.size 5 i0 (.int .u8 0) 1 1 Tryd.underlying35 hi hz0 hz1 hz2 rfl (by decide) _ (4 * j) _ rfl (hO.alloc _) ⟨wr.heap.size, 0, none⟩ 4 4 [.int .u8 (x / 16777216 % 256), .int .u8 (x / 65536 % 256), .int .u8 (x / 256 % 256), .int .u8 (x % 256)] rfl rfl (cells_new _ _ _ _ rfl) (by intro u hu; simp at hu; rcases hu with rfl | rfl | rfl | rfl <;> rfl) (by unfold maxLen; omega) (by omega) (by simp; omega) ?_; intro v2 W3 hO3 hg3 _)
          obtain ⟨ao2, sl2, sc2, rfl⟩ : ∃ ao n' cap, v2 = Value.slice ao n' cap := by
            rcases hO3.2 with ⟨hv, _⟩ | ⟨g, cap, cur, hv, _⟩
            · exact ⟨_, _, _, hv⟩
            · exact ⟨_, _, _, hv⟩
          go_roundw
          case rel =>
            refine ⟨j + 1, ao2, sl2, sc2, by omega, rfl, rfl, ?_, obelow (hb.alloc hb.size _) (hO.alloc _) hg3 (by simp; omega)⟩
            rw [HOL.out, bytesV_append]
            have hv : bytesV [byteI (x / 16777216), byteI (x / 65536), byteI (x / 256), byteI x] = [Value.int .u8 (x / 16777216 % 256), .int .u8 (x / 65536 % 256), .int .u8 (x / 256 % 256), .int .u8 (x % 256)] := by
              simp only [bytesV, List.map_cons, List.map_nil, byteI_val]
            rw [hv, show 4 * (j + 1) = 4 * j + 4 by omega]
            exact hO3
          case measure => simp [intOf]; omega
        · obtain rfl : j = 8 := by omega
          have hO' : wr.ownsRow w.heap.size 5 1 (.slice ao sl sc) 32 ((outL h2).map fun b => Value.int .u8 (b.toNat : Int)) := by
            rw [List.take_of_length_le (by omega)] at hO
            exact hO
          have hcv := conv_owns (P := Tryd.prog) wr 35 9 5 w.heap.size 32 _ (outL h2) hO' Tryd.underlying35 Tryd.underlying5 Tryd.underlying9
          rw [HS.out] at hcv
          clear hO hO'
          go_wp2
          go_ret
          exact ⟨rfl, hb⟩

end Go.Proofs.YtpophimnoakinaaDoor
