/- Find: the document's own. -/
import Derived.Test.YtmlmdidaldcoiaaDoorVrs
namespace Go.Proofs.YtmlmdidaldcoiaaDoor
open Go Go.Maps Go.ChangeShapes Go.WideShapes Go.ChangeAt Go.RowKit
set_option linter.unusedVariables false
set_option linter.unusedSimpArgs false

set_option maxHeartbeats 6400000 in
set_option maxRecDepth 100000 in
theorem rvfind_any (s : ByteArray) (w : World) (hs : s.size ≤ 1000000) : Calls Tryd.prog 19 #[.string s] w (FiPost s w) := by
  have hl : s.data.toList.length = s.size := by rw [Array.length_toList]; rfl
  have PA : Hid (∀ (t : ByteArray) (wx : World), Calls Tryd.prog 17 #[.string t] wx (PsPost t wx)) := Lib.hid fun t wx => rvparse_any t wx
  have b0 := (Below.refl w.heap.size w).alloc (o := .cells #[.string ⟨#[]⟩, .int .i64 0, .int .i64 0, .int .i64 0, .int .i64 0] 24) (Nat.le_refl _)
  have k0 := heap_alloc_new w (.cells #[.string ⟨#[]⟩, .int .i64 0, .int .i64 0, .int .i64 0, .int .i64 0] 24)
  have HL := Lib.hid hl
  clear hl
  go_enter Tryd.func19, Tryd.ntmps19
  go_upto_region 1 with fail
  generalize w.alloc _ = w1 at b0 k0 ⊢
  have HW : Hid (PW w w1) := Lib.hid ⟨k0, b0⟩
  clear b0 k0
  go_upto_region 2 with fail
  go_loopw [5, 6, 7] (fun vc _ _ wr => ∃ j : Nat, vc = .int .i64 (j : Int) ∧ j ≤ 25 ∧ Hid (findV s.data.toList 25 0 = findV s.data.toList (25 - j) j) ∧ PW w wr) (fun vc _ _ _ => 26 - (intOf vc).toNat)
  case atStart => exact ⟨0, rfl, by decide, Lib.hid rfl, HW.out⟩
  case round =>
    obtain ⟨j, rfl, hj25, hfd, hW⟩ := hrel
    by_cases hj : j ≤ 24 ∧ j + 17 ≤ s.size
    · obtain ⟨h24, h17⟩ := hj
      have HJ := Lib.hid (And.intro h24 h17)
      have hsl : (j : Int) + 17 ≤ (s.size : Int) := by omega
      have hj0 : (0 : Int) ≤ (j : Int) := by omega
      have hj24 : (j : Int) ≤ 24 := by omega
      have P1 : Hid (Calls Tryd.prog 17 #[.string (s.extract j (j + 17))] wr (PsPost (s.extract j (j + 17)) wr)) := Lib.hid (PA.out _ wr)
      unfold PsPost at P1
      have el : (s.extract j (j + 17)).data.toList = (s.data.toList.drop j).take 17 := by rw [vext_list, show j + 17 - j = 17 by omega]
      rw [el] at P1
      have HP := Lib.hid (pv_cases ((s.data.toList.drop j).take 17))
      generalize pvE ((s.data.toList.drop j).take 17) = E at P1 HP
      generalize pvV ((s.data.toList.drop j).take 17) = V at P1 HP
      unfold vcs at P1
      have HW2 := Lib.hid hW
      clear el hW h24 h17
      go_upto_region 5 with (go_at_call 17; (with_reducible refine (P1.out).mono ?_); rintro e w2 ⟨rfl, hb2⟩)
      have HW3 := Lib.hid (HW2.out.step hb2)
      have b4 := (Below.refl w2.heap.size w2).alloc (o := .cells #[.string V.p, .int .i64 V.a, .int .i64 V.b, .int .i64 V.f, .int .i64 V.z] 24) (Nat.le_refl _)
      have k4 := heap_alloc_new w2 (.cells #[.string V.p, .int .i64 V.a, .int .i64 V.b, .int .i64 V.f, .int .i64 V.z] 24)
      generalize w2.alloc _ = w4 at b4 k4 ⊢
      have hW4 := HW3.out.step b4
      have c4 := five_of k4
      have f4 := free_five hW4.1
      have d4 := five_of hW4.1
      have HW4 := Lib.hid hW4
      have hg4 : w.heap.size < w2.heap.size := lt_of_block HW3.out.1
      generalize w2.heap.size = g4 at c4 hg4 ⊢
      clear hb2 HW2 HW3 b4 k4 hW4 P1 hg4
      rcases HP.out with ⟨v, hv, rfl, rfl⟩ | ⟨hv, rfl, rfl⟩
      · have HF := Lib.hid (fd_some (find_hit HJ.out.1 (by rw [HL.out]; exact HJ.out.2) hfd.out hv))
        clear HP hv hfd
        go_wp2
        refine ret_vers3 (x0 := .string V.p) (x1 := .int .i64 V.a) (x2 := .int .i64 V.b) (x3 := .int .i64 V.f) (x4 := .int .i64 V.z) (v := .int .i64 (j : Int)) (v2 := .int .i64 0) HW4.out.1 rfl rfl rfl rfl rfl ?_
        exact ⟨by rw [HF.out.1, HF.out.2.1, HF.out.2.2]; rfl, HW4.out.2.grown (grown_set5 _ _ _ _ _ _ _) HW4.out.2.size (fun k hk => by cases hk; exact Nat.le_refl _)⟩
      · have HF := Lib.hid (find_next HJ.out.1 (by rw [HL.out]; exact HJ.out.2) hfd.out hv)
        clear HP hv hfd
        go_wp2
        go_roundw
        case rel => exact ⟨j + 1, by go_num, by have := HJ.out.1; omega, HF, HW4.out⟩
        case measure => simp [intOf]; have := HJ.out.1; omega
    · have HF := Lib.hid (fd_none (find_end (by rw [HL.out]; omega) hfd.out))
      have f4 := free_five hW.1
      have d4 := five_of hW.1
      have HW4 := Lib.hid hW
      rcases (by omega : ¬ j ≤ 24 ∨ (j ≤ 24 ∧ ¬ j + 17 ≤ s.size)) with h1 | ⟨h1, h2⟩
      · have g1 : ¬ (j : Int) ≤ 24 := by omega
        clear hfd hW hj h1
        go_wp2
        refine ret_vers3 (x0 := .string ⟨#[]⟩) (x1 := .int .i64 0) (x2 := .int .i64 0) (x3 := .int .i64 0) (x4 := .int .i64 0) (v := .int .i64 0) (v2 := .int .i64 10) HW4.out.1 rfl rfl rfl rfl rfl ?_
        exact ⟨by rw [HF.out.1, HF.out.2.1, HF.out.2.2]; rfl, HW4.out.2.grown (grown_set5 _ _ _ _ _ _ _) HW4.out.2.size (fun k hk => by cases hk; exact Nat.le_refl _)⟩
      · have g1 : (j : Int) ≤ 24 := by omega
        have g2 : ¬ (j : Int) + 17 ≤ (s.size : Int) := by omega
        clear hfd hW hj h1 h2
        go_wp2
        refine ret_vers3 (x0 := .string ⟨#[]⟩) (x1 := .int .i64 0) (x2 := .int .i64 0) (x3 := .int .i64 0) (x4 := .int .i64 0) (v := .int .i64 0) (v2 := .int .i64 10) HW4.out.1 rfl rfl rfl rfl rfl ?_
        exact ⟨by rw [HF.out.1, HF.out.2.1, HF.out.2.2]; rfl, HW4.out.2.grown (grown_set5 _ _ _ _ _ _ _) HW4.out.2.size (fun k hk => by cases hk; exact Nat.le_refl _)⟩
end Go.Proofs.YtmlmdidaldcoiaaDoor
