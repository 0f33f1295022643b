/- The statement ThresholdValid: for every input the Go function returns true, and each argument reads as it did. -/
import Derived.Test.YtefhhfpdponabaaTvd
import Derived.ChangeOld
import Derived.ShutString
namespace Go.Proofs.Ytefhhfpdponabaa.ThresholdValid
open Go Go.ChangeShapes Go.WideShapes Go.ChangeAt Go.RowKit
open Go.ChangeMaps (open_string shut_string)
set_option linter.unusedVariables false

theorem own : ownKnob Try.prog.godebug = none := by kernel_rfl
theorem laidOut : laidOutB Try.prog = true := by kernel_rfl

set_option maxRecDepth 100000 in
theorem lifted (os : Os) (started : os.Started) (H : Type) (enc : TypeId × Value → H) :
    ReturnsInHanded {} Try.checked os 3 .any (Rows.thresholdValidSpec.pre6 enc Try.prog Try.f3 Rows.thresholdValidRow.domain false)
      (Rows.thresholdValidSpec.post enc Try.prog Try.f3 false true false false) := by
  refine returnsInHanded_of_change (C := Try.checked) own started (by kernel_rfl) Try.func3
    (ChangeSpec.witness6 (enc := enc) (C := Try.checked) false ⟨#[], #[.slice none 0 0, .agg #[.int .i64 0, .slice none 0 0], .slice none 0 0, .int .i64 0], []⟩ 8 (by kernel_rfl) (by kernel_rfl) (by kernel_rfl) (by kernel_rfl)) ?_
  intro W base args ds gs before hval0 hW hcnd _
  have hval : ∀ (j : Nat) t v, Try.f3.params[j]? = some t → args[j]? = some v → Value.okWide Try.prog W .any base t v := hval0
  have hW' := hW
  obtain ⟨p, q, hA0, hV, rfl, hfz, hnd⟩ := hW
  have hA : DataW.TrodAll enc Try.prog W 0 (fun _ => true) true Try.f3.params.toList args.toList ds p := hA0
  rw [Try.params3] at hA hval
  obtain ⟨v0, vs0, d0, ds0, p0, q0, hargs, rfl, rfl, h0, r0⟩ := trodAll_cons hA
  obtain ⟨v1, vs1, d1, ds1, p1, q1, rfl, rfl, rfl, h1, r1⟩ := trodAll_cons r0
  obtain ⟨v2, vs2, d2, ds2, p2, q2, rfl, rfl, rfl, h2, r2⟩ := trodAll_cons r1
  obtain ⟨v3, vs3, d3, ds3, p3, q3, rfl, rfl, rfl, h3, r3⟩ := trodAll_cons r2
  obtain ⟨rfl, rfl, rfl⟩ := trodAll_nil r3
  obtain rfl : args = #[v0, v1, v2, v3] := by cases args; simp_all
  obtain ⟨rfl, rfl⟩ := trodVars_none hV
  obtain ⟨a_t, len_t, cap_t, rfl⟩ := okWide_slice Try.underlying22 (hval 0 22 v0 rfl rfl)
  have k_t := h0
  have lt_t : ∀ x ∈ p0, x.block < W.heap.size := by obtain ⟨m, hm⟩ := k_t; exact DataW.trod_lt m _ _ _ hm
  obtain ⟨z_t, row_t⟩ := isRow_open Try.underlying22 Try.underlying3 (by kernel_rfl) h0
  obtain ⟨cs_raw, rfl, sz_raw⟩ := okWide_struct Try.underlying25 (hval 1 25 v1 rfl rfl)
  have k_raw := h1
  have lt_raw : ∀ x ∈ p1, x.block < W.heap.size := by obtain ⟨m, hm⟩ := k_raw; exact DataW.trod_lt m _ _ _ hm
  obtain ⟨num_raw, v_raw, ws_raw, hc_raw, b_raw, fs_raw⟩ : ∃ num v ws, cs_raw = #[.int .i64 num, v] ∧ in64 num ∧ FrssAt W.heap.size W v ws := by
    obtain ⟨m, hm⟩ := k_raw
    obtain ⟨num, v, ws, e, h1, h2⟩ := thr_opens (fuel := m) (cs := cs_raw.toList) (d := d1) (p := p1) (by simpa [Value.cells] using hm)
    exact ⟨num, v, ws, by rw [← Array.toArray_toList (xs := cs_raw), e], h1, h2⟩
  subst hc_raw
  obtain ⟨a_l, len_l, cap_l, rfl⟩ := okWide_slice Try.underlying26 (hval 2 26 v2 rfl rfl)
  have k_l := h2
  have lt_l : ∀ x ∈ p2, x.block < W.heap.size := by obtain ⟨m, hm⟩ := k_l; exact DataW.trod_lt m _ _ _ hm
  obtain ⟨L_l, fr_l⟩ : ∃ L, FrsAt W.heap.size W (.slice a_l len_l cap_l) L := by obtain ⟨m, hm⟩ := k_l; exact frs_open (fuel := m) (d := d2) (p := p2) hm
  obtain ⟨keys, rfl, rfl, rfl, w_keys⟩ := open_int Try.underlying3 (hval 3 3 v3 rfl rfl) h3
  have bd_keys := bounds_i64 w_keys
  clear hA0 hval0
  refine (valid13_walk a_t len_t cap_t z_t num_raw v_raw ws_raw (.slice a_l len_l cap_l) L_l keys W (NumsB.of_row row_t) fs_raw b_raw fr_l bd_keys.1 bd_keys.2).mono fun e W' ⟨he, bel⟩ => ?_
  subst he
  exact ⟨_, rfl, _, _, _, [], _, [], hW', trodAll_mk1 (shut_bool Try.underlying4 _), (trodAll_cons_mk (Below.trod laidOut (by kernel_rfl) (of_decide_eq_true (by kernel_rfl)) k_t bel lt_t) (trodAll_cons_mk (Below.trod laidOut (by kernel_rfl) (of_decide_eq_true (by kernel_rfl)) k_raw bel lt_raw) (trodAll_cons_mk (Below.trod laidOut (by kernel_rfl) (of_decide_eq_true (by kernel_rfl)) k_l bel lt_l) (trodAll_cons_mk (shut_int Try.underlying3 w_keys) trodAll_mk0)))), rfl, bel.frame _, fun h => by cases h⟩

theorem proved : Rows.ThresholdValidSaid :=
  OpenClaim.holds_of_wide 3 Try.f3 rfl rfl rfl rfl rfl rfl rfl ⟨rfl, rfl, rfl, rfl, rfl⟩ rfl rfl rfl rfl rfl (by kernel_rfl) Try.func3 (by kernel_rfl)
    (of_decide_eq_true (by kernel_rfl)) (by unfold Func.isWrapper; first | (rw [if_pos (by decide +kernel)]; kernel_rfl) | (rw [if_neg (by decide +kernel)]; exact ⟨rfl, rfl⟩))
    (fun os started H enc _ => lifted os started H enc)

#print axioms proved
end Go.Proofs.Ytefhhfpdponabaa.ThresholdValid
