/- Find: the program's own. -/
import Derived.Test.YtmlmdidaldcoiaaDoorVps
namespace Go.Proofs.YtmlmdidaldcoiaaDoor
open Go Go.Maps Go.ChangeShapes Go.WideShapes Go.ChangeAt Go.RowKit
set_option linter.unusedVariables false
set_option linter.unusedSimpArgs false

theorem find_hit {l : List UInt8} {j : Nat} {v : VD} (hj : j ≤ 24) (hl : j + 17 ≤ l.length) (hf : findV l 25 0 = findV l (25 - j) j) (hp : parseV ((l.drop j).take 17) = some v) : findV l 25 0 = some (v, j) := by
  rw [hf, show 25 - j = (24 - j) + 1 by omega, findV, if_pos hl, hp]
theorem find_next {l : List UInt8} {j : Nat} (hj : j ≤ 24) (hl : j + 17 ≤ l.length) (hf : findV l 25 0 = findV l (25 - j) j) (hp : parseV ((l.drop j).take 17) = none) : findV l 25 0 = findV l (25 - (j + 1)) (j + 1) := by
  rw [hf, show 25 - j = (24 - j) + 1 by omega, findV, if_pos hl, hp, show 25 - (j + 1) = 24 - j by omega]
theorem find_end {l : List UInt8} {j : Nat} (h : j = 25 ∨ l.length < j + 17) (hf : findV l 25 0 = findV l (25 - j) j) : findV l 25 0 = none := by
  rw [hf]
  rcases Nat.lt_or_ge j 25 with h1 | h1
  · rw [show 25 - j = (24 - j) + 1 by omega, findV, if_neg (by omega)]
  · rw [show 25 - j = 0 by omega]; rfl
theorem fd_none {l : List UInt8} (h : findV l 25 0 = none) : fdV l = v0 ∧ fdP l = 0 ∧ fdE l = 10 := by
  unfold fdV fdP fdE; rw [h]; exact ⟨rfl, rfl, rfl⟩
theorem fd_some {l : List UInt8} {v : VD} {j : Nat} (h : findV l 25 0 = some (v, j)) : fdV l = v ∧ fdP l = (j : Int) ∧ fdE l = 0 := by
  unfold fdV fdP fdE; rw [h]; exact ⟨rfl, rfl, rfl⟩
theorem pv_cases (l : List UInt8) : (∃ v, parseV l = some v ∧ pvV l = v ∧ pvE l = 0) ∨ (parseV l = none ∧ pvV l = v0 ∧ pvE l = 10) := by
  unfold pvV pvE
  cases parseV l with
  | none => exact .inr ⟨rfl, rfl, rfl⟩
  | some v => exact .inl ⟨v, rfl, rfl, rfl⟩
def FiPost (s : ByteArray) (w : World) (e : Ending) (w' : World) : Prop := e = .returned (.tuple #[.agg (vcs (fdV s.data.toList)), .int .i64 (fdP s.data.toList), .int .i64 (fdE s.data.toList)]) ∧ Below w.heap.size w w'
theorem ret_vers3 {f : Func} {Q : Ending → World → Prop} {a : Act} {w : World} {g c s s2 : Nat} {x0 x1 x2 x3 x4 v v2 y0 y1 y2 y3 y4 : Value} (h : w.heap[g]? = some (.cells #[y0, y1, y2, y3, y4] 24 (0, 0))) (hres : f.results = #[.cell c 24, .tmp s, .tmp s2]) (hc : a.tmps.getD c undef = .pointer (some ⟨g, 0, none⟩)) (hs : a.tmps.getD s undef = v) (hs2 : a.tmps.getD s2 undef = v2) (hd : a.defers = [])
    (hQ : Q (.returned (.tuple #[.agg #[x0, x1, x2, x3, x4], v, v2])) (set5 w g x0 x1 x2 x3 x4)) : bodyPost Tryd.prog f Q .ret a (set5 w g x0 x1 x2 x3 x4) := by
  refine bodyPost_ret (v := .tuple #[.agg #[x0, x1, x2, x3, x4], v, v2]) ?_ hd hQ
  obtain ⟨q0, q1, q2, q3, q4⟩ := five_of (five_put h x0 x1 x2 x3 x4)
  obtain ⟨tm, df⟩ := a
  simp only [Array.getD_eq_getD_getElem?] at hc hs hs2
  simp [results, hres, go_sem, hc, hs, hs2, q0, q1, q2, q3, q4]
set_option maxHeartbeats 6400000 in
set_option maxRecDepth 100000 in
theorem vfind_any (s : ByteArray) (w : World) (hs : s.size ≤ 1000000) (hT : DB w) (hE : VErr w) : Calls Tryd.prog 18 #[.string s] w (FiPost s w) := by
  have hl : s.data.toList.length = s.size := by rw [Array.length_toList]; rfl
  have PA : Hid (∀ (t : ByteArray) (wx : World), Below w.heap.size w wx → Calls Tryd.prog 16 #[.string t] wx (PsPost t wx)) := Lib.hid fun t wx hb => vparse_any t wx (hT.below hb) (hE.below hb)
  have b0 := (Below.refl w.heap.size w).alloc (o := .cells #[.string ⟨#[]⟩, .int .i64 0, .int .i64 0, .int .i64 0, .int .i64 0] 24) (Nat.le_refl _)
  have k0 := heap_alloc_new w (.cells #[.string ⟨#[]⟩, .int .i64 0, .int .i64 0, .int .i64 0, .int .i64 0] 24)
  have HL := Lib.hid hl
  clear hT hE hl
  go_enter Tryd.func18, Tryd.ntmps18
  go_upto_region 1 with fail
  generalize w.alloc _ = w1 at b0 k0 ⊢
  have HW : Hid (PW w w1) := Lib.hid ⟨k0, b0⟩
  clear b0 k0
  go_upto_region 2 with fail
  obtain ⟨M, hM⟩ : ∃ M : Int, M = min 24 ((s.size : Int) - 17) + 1 := ⟨_, rfl⟩
  rw [← hM]
  have HM : Hid (M ≤ 25 ∧ (∀ j : Nat, (j : Int) < M → j ≤ 24 ∧ j + 17 ≤ s.size) ∧ ∀ j : Nat, ¬ (j : Int) < M → j = 0 ∨ (j : Int) ≤ M → j = 25 ∨ s.size < j + 17) := Lib.hid ⟨by omega, fun j h => by omega, fun j h k => by omega⟩
  have hM25 : M ≤ 25 := HM.out.1
  clear hM
  go_loopw [5, 6, 7, 13] (fun _ _ _ vc wr => ∃ j : Nat, vc = .int .i64 (j : Int) ∧ (j = 0 ∨ (j : Int) ≤ M) ∧ Hid (findV s.data.toList 25 0 = findV s.data.toList (25 - j) j) ∧ PW w wr) (fun _ _ _ vc _ => 26 - (intOf vc).toNat)
  case atStart => exact ⟨0, rfl, .inl rfl, Lib.hid rfl, HW.out⟩
  case round =>
    obtain ⟨j, rfl, hjM, hfd, hW⟩ := hrel
    by_cases hj : (j : Int) < M
    · obtain ⟨h24, h17⟩ := HM.out.2.1 j hj
      have HJ := Lib.hid (And.intro h24 h17)
      have hsl : (j : Int) + 17 ≤ (s.size : Int) := by omega
      have hj0 : (0 : Int) ≤ (j : Int) := by omega
      have hj25 : (j : Int) < 25 := by omega
      have P1 : Hid (Calls Tryd.prog 16 #[.string (s.extract j (j + 17))] wr (PsPost (s.extract j (j + 17)) wr)) := Lib.hid (PA.out _ wr hW.2)
      unfold PsPost at P1
      have el : (s.extract j (j + 17)).data.toList = (s.data.toList.drop j).take 17 := by rw [vext_list, show j + 17 - j = 17 by omega]
      rw [el] at P1
      have HP := Lib.hid (pv_cases ((s.data.toList.drop j).take 17))
      generalize pvE ((s.data.toList.drop j).take 17) = E at P1 HP
      generalize pvV ((s.data.toList.drop j).take 17) = V at P1 HP
      unfold vcs at P1
      have HW2 := Lib.hid hW
      clear el hW h24 h17
      go_upto_region 5 with (go_at_call 16; (with_reducible refine (P1.out).mono ?_); rintro e w2 ⟨rfl, hb2⟩)
      have HW3 := Lib.hid (HW2.out.step hb2)
      have b4 := (Below.refl w2.heap.size w2).alloc (o := .cells #[.string V.p, .int .i64 V.a, .int .i64 V.b, .int .i64 V.f, .int .i64 V.z] 24) (Nat.le_refl _)
      have k4 := heap_alloc_new w2 (.cells #[.string V.p, .int .i64 V.a, .int .i64 V.b, .int .i64 V.f, .int .i64 V.z] 24)
      generalize w2.alloc _ = w4 at b4 k4 ⊢
      have hW4 := HW3.out.step b4
      have c4 := five_of k4
      have f4 := free_five hW4.1
      have d4 := five_of hW4.1
      have HW4 := Lib.hid hW4
      have hg4 : w.heap.size < w2.heap.size := lt_of_block HW3.out.1
      generalize w2.heap.size = g4 at c4 hg4 ⊢
      clear hb2 HW2 HW3 b4 k4 hW4 P1 hg4
      rcases HP.out with ⟨v, hv, rfl, rfl⟩ | ⟨hv, rfl, rfl⟩
      · have HF := Lib.hid (fd_some (find_hit HJ.out.1 (by rw [HL.out]; exact HJ.out.2) hfd.out hv))
        clear HP hv hfd
        go_wp2
        refine ret_vers3 (x0 := .string V.p) (x1 := .int .i64 V.a) (x2 := .int .i64 V.b) (x3 := .int .i64 V.f) (x4 := .int .i64 V.z) (v := .int .i64 (j : Int)) (v2 := .int .i64 0) HW4.out.1 rfl rfl rfl rfl rfl ?_
        exact ⟨by rw [HF.out.1, HF.out.2.1, HF.out.2.2]; rfl, HW4.out.2.grown (grown_set5 _ _ _ _ _ _ _) HW4.out.2.size (fun k hk => by cases hk; exact Nat.le_refl _)⟩
      · have HF := Lib.hid (find_next HJ.out.1 (by rw [HL.out]; exact HJ.out.2) hfd.out hv)
        have hjM2 : (j : Int) + 1 ≤ M := by omega
        clear HP hv hfd
        go_wp2
        go_roundw
        case rel => exact ⟨j + 1, by go_num, .inr (by omega), HF, HW4.out⟩
        case measure => simp [intOf]; omega
    · have HF := Lib.hid (fd_none (find_end (by have := HM.out.2.2 j hj hjM; rw [HL.out]; exact this) hfd.out))
      have f4 := free_five hW.1
      have d4 := five_of hW.1
      have HW4 := Lib.hid hW
      clear hfd hW hjM
      go_wp2
      refine ret_vers3 (x0 := .string ⟨#[]⟩) (x1 := .int .i64 0) (x2 := .int .i64 0) (x3 := .int .i64 0) (x4 := .int .i64 0) (v := .int .i64 0) (v2 := .int .i64 10) HW4.out.1 rfl rfl rfl rfl rfl ?_
      exact ⟨by rw [HF.out.1, HF.out.2.1, HF.out.2.2]; rfl, HW4.out.2.grown (grown_set5 _ _ _ _ _ _ _) HW4.out.2.size (fun k hk => by cases hk; exact Nat.le_refl _)⟩
end Go.Proofs.YtmlmdidaldcoiaaDoor
