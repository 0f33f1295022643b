/- Contracts of package hash: addBlocks (the sums behind all blocks of a text). -/
import Derived.Test.YtpophimnoakinaaDoorFan
import Derived.Test.YtpophimnoakinaaDoorHashb
namespace Go.Proofs.YtpophimnoakinaaDoor
open Go.ChangeShapes Go.WideShapes Go.ChangeAt Go.RowKit
set_option linter.unusedVariables false
set_option linter.unusedSimpArgs false

/-- The eight cells of an array of eight. -/
theorem arr8 {w : World} {g : Nat} {T : TypeId} {x0 x1 x2 x3 x4 x5 x6 x7 : Int} (h : Arr w g T (u32s [x0, x1, x2, x3, x4, x5, x6, x7])) :
    w.cell? ⟨g, 0, none⟩ = some (.int .u32 x0) ∧ w.cell? ⟨g, 1, none⟩ = some (.int .u32 x1) ∧ w.cell? ⟨g, 2, none⟩ = some (.int .u32 x2) ∧ w.cell? ⟨g, 3, none⟩ = some (.int .u32 x3) ∧ w.cell? ⟨g, 4, none⟩ = some (.int .u32 x4) ∧ w.cell? ⟨g, 5, none⟩ = some (.int .u32 x5) ∧ w.cell? ⟨g, 6, none⟩ = some (.int .u32 x6) ∧ w.cell? ⟨g, 7, none⟩ = some (.int .u32 x7) :=
  ⟨h.cellAt rfl, h.cellAt rfl, h.cellAt rfl, h.cellAt rfl, h.cellAt rfl, h.cellAt rfl, h.cellAt rfl, h.cellAt rfl⟩

set_option maxHeartbeats 400000 in
set_option maxRecDepth 100000 in
theorem addBlocks_any (hs : List Int) (s : ByteArray) (w : World) (h8 : hs.length = 8) (hK : KTab w) (hsz : 2 < w.heap.size) :
    Calls Tryd.prog 70 #[.agg (u32s hs).toArray, .string s] w fun e w' => e = .returned (.agg (u32s (runB hs s.data.toList (s.size / 64))).toArray) ∧ Below w.heap.size w w' := by
  obtain ⟨L, hL⟩ : ∃ L, L = s.data.toList := ⟨_, rfl⟩
  have hLs : L.length = s.size := by rw [hL]; simp
  obtain ⟨HV, hHV⟩ : ∃ V, V = u32s hs := ⟨_, rfl⟩
  have hHl : HV.length = 8 := by rw [hHV, u32s_length, h8]
  rw [← hL, ← hHV]
  have HL0 := Lib.hid hL
  have HHV := Lib.hid hHV
  clear hL hHV
  go_enter Tryd.func70, Tryd.ntmps70
  go_wp2
  go_loopw [1] (fun v wr => ∃ n : Nat, ∃ q : ByteArray, 64 * n ≤ L.length ∧ v = .string q ∧ q.data.toList = L.drop (64 * n) ∧ Arr wr w.heap.size 61 (u32s (runB hs L n)) ∧ Arr wr (w.heap.size + 1) 61 (zs 8) ∧ Below w.heap.size w wr) (fun v _ => match v with | .string q => q.size | _ => 0)
  case atStart =>
    refine ⟨0, s, by omega, rfl, by rw [← HL0.out]; rfl, ?_, ?_, ?_⟩
    · have := (Arr.new w HV 61).alloc (.cells (zs 8).toArray 61)
      rw [HHV.out] at this
      rw [HHV.out]
      exact this
    · exact Arr.new2 w _ (zs 8) 61
    · exact ((Below.refl _ _).alloc (Nat.le_refl _) _).alloc (by simp) _
  case round =>
    obtain ⟨n, q, hn, rfl, hq, a1, a2, hb⟩ := hrel
    have hqs : q.size = L.length - 64 * n := by
      have : q.data.toList.length = q.size := by simp
      rw [← this, hq, List.length_drop]
    by_cases hlt : 64 ≤ q.size
    · obtain ⟨b, hbq⟩ : ∃ b, q.extract 0 64 = b := ⟨_, rfl⟩
      have hbs : b.size = 64 := by rw [← hbq, ext_size _ _ _ (by omega) (by omega)]
      have hbl : b.data.toList = blk L n := by rw [← hbq, ext_data, hq]; rfl
      obtain ⟨YV, hYV⟩ : ∃ V, V = u32s (runB hs L n) := ⟨_, rfl⟩
      have hYl : YV.length = 8 := by rw [hYV, u32s_length, runB_length hs L h8 n]
      obtain ⟨WV, hWV⟩ : ∃ V, V = u32s (wOf (blk L n)) := ⟨_, rfl⟩
      obtain ⟨CV, hCV⟩ : ∃ V, V = u32s (runB hs L (n + 1)) := ⟨_, rfl⟩
      have hCl : CV.length = 8 := by rw [hCV, u32s_length, runB_length hs L h8 (n + 1)]
      have hC1 : ∀ v ∈ CV, v.oneCell' = true := by rw [hCV]; exact u32s_one _
      have HEX := Lib.hid (fun (wx : World) => expand_any b wx hbs)
      rw [hbl, ← hWV] at HEX
      have HAD := Lib.hid (fun (wx : World) => addBlock_any (runB hs L n) (wOf (blk L n)) wx (runB_length hs L h8 n) (wOf_length _))
      rw [show cmpI (runB hs L n) (wOf (blk L n)) = runB hs L (n + 1) from rfl, ← hWV, ← hYV, ← hCV] at HAD
      rw [← hYV] at a1
      have HC := Lib.hid hCV
      have hKr : KTab wr := hK.below hb hsz
      have hszr : 2 < wr.heap.size := Nat.lt_of_lt_of_le hsz hb.size
      have HQ := Lib.hid hq
      have HQS := Lib.hid hqs
      have HLS := Lib.hid hLs
      have HN0 := Lib.hid hn
      have hlt' : (64 : Int) ≤ (q.size : Int) := by omega
      clear hq hbl hqs hLs hn hYV hWV hCV hbs
      go_wp2
      refine wp_region_fan [1, 2] 3 [[0, 3, 4, 5], [3, 0, 4, 5]] (by kernel_rfl) (by kernel_rfl) (fun _ d _ _ _ h => by cases d <;> exact h) ?_
      simp only [opsAt, List.filterMap_cons, List.filterMap_nil, List.getElem?_toArray, List.getElem?_cons_zero, List.getElem?_cons_succ]
      iterate 2 (refine steady_step ?_ ?_ ?_ (fun K hK => ?_); rotate_left; (rfl); (intro w0; go_simp; (try rfl)); (go_simp; refine hK _ ?_; clear hK K))
      refine steady_nil ?_
      have a1d : Arr wr.drew w.heap.size 61 YV := a1
      have a2d : Arr wr.drew (w.heap.size + 1) 61 (zs 8) := a2
      have hbd : Below w.heap.size w wr.drew := hb.drew
      have hKd : KTab wr.drew := hKr
      have hszd : 2 < wr.drew.heap.size := hszr
      generalize wr.drew = wd at a1d a2d hbd hKd hszd ⊢
      clear a1 a2 hb hKr hszr
      have hg := a1d.lt
      intro ts hts
      simp only [List.mem_cons, List.not_mem_nil, or_false] at hts
      rcases hts with rfl | rfl
      · simp only [List.filterMap_cons, List.filterMap_nil, List.getElem?_toArray, List.getElem?_cons_zero, List.getElem?_cons_succ]
        change wpList _ _ _ [_, _, _, _] _ _
        go_wp2_with (first | (refine wp_ld rfl 61 (.tmp 2) rfl _ rfl a1d Tryd.underlying61 info8 hYl ?_) | (go_at_call 88; (with_reducible refine (HEX.out _).mono ?_); rintro e w1 ⟨rfl, hbe⟩) | (go_at_call 87; (with_reducible refine (HAD.out _ (hKd.below hbe hszd) (Nat.lt_of_lt_of_le hszd hbe.size)).mono ?_); rintro e w2 ⟨rfl, hba⟩) | (refine wp_st rfl 61 (.tmp 2) (.tmp 12) rfl _ CV rfl rfl ((a1d.below hbe hg).below hba (Nat.lt_of_lt_of_le hg hbe.size)) info8 hYl hCl hC1 ?_))
        go_roundw
        case rel =>
          have hb2 := (hbd.trans ((hbe.mono hbd.size).trans (hba.mono (Nat.le_trans hbd.size hbe.size))))
          refine ⟨n + 1, q.extract 64 q.size, ?_, rfl, ?_, ?_, ?_, below_setRow hb2 _ (Nat.le_refl _) _⟩
          · have := HQS.out; have := HLS.out; have := HN0.out; omega
          · rw [ext_data, toList_take_size, HQ.out, List.drop_drop]; congr 1
          · rw [← HC.out]
            exact ((a1d.below hbe hg).below hba (Nat.lt_of_lt_of_le hg hbe.size)).setRow _
          · exact ((a2d.below hbe a2d.lt).below hba (Nat.lt_of_lt_of_le a2d.lt hbe.size)).besideRow _ _ (by omega)
        case measure => simp; omega
      · simp only [List.filterMap_cons, List.filterMap_nil, List.getElem?_toArray, List.getElem?_cons_zero, List.getElem?_cons_succ]
        change wpList _ _ _ [_, _, _, _] _ _
        go_wp2_with (first | (refine wp_ld rfl 61 (.tmp 2) rfl _ rfl (a1d.below hbe hg) Tryd.underlying61 info8 hYl ?_) | (go_at_call 88; (with_reducible refine (HEX.out _).mono ?_); rintro e w1 ⟨rfl, hbe⟩) | (go_at_call 87; (with_reducible refine (HAD.out _ (hKd.below hbe hszd) (Nat.lt_of_lt_of_le hszd hbe.size)).mono ?_); rintro e w2 ⟨rfl, hba⟩) | (refine wp_st rfl 61 (.tmp 2) (.tmp 12) rfl _ CV rfl rfl ((a1d.below hbe hg).below hba (Nat.lt_of_lt_of_le hg hbe.size)) info8 hYl hCl hC1 ?_))
        go_roundw
        case rel =>
          have hb2 := (hbd.trans ((hbe.mono hbd.size).trans (hba.mono (Nat.le_trans hbd.size hbe.size))))
          refine ⟨n + 1, q.extract 64 q.size, ?_, rfl, ?_, ?_, ?_, below_setRow hb2 _ (Nat.le_refl _) _⟩
          · have := HQS.out; have := HLS.out; have := HN0.out; omega
          · rw [ext_data, toList_take_size, HQ.out, List.drop_drop]; congr 1
          · rw [← HC.out]
            exact ((a1d.below hbe hg).below hba (Nat.lt_of_lt_of_le hg hbe.size)).setRow _
          · exact ((a2d.below hbe a2d.lt).below hba (Nat.lt_of_lt_of_le a2d.lt hbe.size)).besideRow _ _ (by omega)
        case measure => simp; omega
    · have hn2 : n = s.size / 64 := by omega
      have hr8 := runB_length hs L h8 n
      obtain ⟨V, hV⟩ : ∃ V, V = u32s (runB hs L n) := ⟨_, rfl⟩
      have hVl : V.length = 8 := by rw [hV, u32s_length, hr8]
      have hV1 : ∀ v ∈ V, v.oneCell' = true := by rw [hV]; exact u32s_one _
      rw [← hV] at a1
      have HVV : Hid (V = u32s (runB hs L (s.size / 64))) := by rw [← hn2]; exact hV
      have hnw := a2.setRow V
      have hlt' : (q.size : Int) < 64 := by omega
      clear hV hr8 hn2 hqs hLs hn hq
      go_wp2_with (first | (refine wp_ld rfl 61 (.tmp 2) rfl _ rfl a1 Tryd.underlying61 info8 hVl ?_) | (refine wp_st rfl 61 (.tmp 4) (.tmp 15) rfl _ V rfl rfl a2 info8 (zs_length 8) hVl hV1 ?_))
      refine bodyPost_ret (v := .agg V.toArray) (res_arr rfl _ _ _ rfl hnw Tryd.underlying61 info8 hVl) rfl ⟨by rw [HVV.out], below_setRow hb (w.heap.size + 1) (by omega) _⟩

end Go.Proofs.YtpophimnoakinaaDoor
