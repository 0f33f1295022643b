/- The statement StreamActs (its card): for every list of numbers, every list of groups, every text and every four numbers the Go function returns true: what all functions of the package return, or the error; each argument reads as it did. Its condition: the listed package variables read as the program's own start-up lays them, which the card ties to the program's text. -/
import Derived.Test.YtdmgmfdmakheiaaDoorLactb
import Derived.Test.YtdmgmfdmakheiaaDoorLopen
import Derived.Test.YtdmgmfdmakheiaaDoorTdoor
import Derived.Test.YtdmgmfdmakheiaaDoorCards
import Derived.Test.YtdmgmfdmakheiaaDoorTie
import Derived.SevenTiedAt
import Derived.ChangeOld
import Derived.ShutString
namespace Go.Proofs.YtdmgmfdmakheiaaDoor.StreamActs
open Go Go.ChangeShapes Go.WideShapes Go.ChangeAt Go.RowKit
open Go.ChangeMaps (open_string shut_string)
set_option linter.unusedVariables false

set_option maxRecDepth 100000 in
theorem lifted (os : Os) (started : os.Started) (H : Type) (enc : TypeId × Value → H) :
    ReturnsInHanded {} Tryd.checked os 3 .any (fun w args => (Rows.streamActsSpec.pre enc Tryd.prog Tryd.f3 [] false w args ∧ laidMetH Tryd.prog [("keyevent/base64.values", Rows.laid_keyevent_base64_values), ("keyevent/primitive.layouts", Rows.laid_keyevent_primitive_layouts), ("keyevent/stream.shapes", Rows.laid_keyevent_stream_shapes)] w) ∧ sizedMet enc Tryd.prog Tryd.f3 (OpenSpec.ofChange Rows.streamActsSpec) false w args)
      (Rows.streamActsSpec.post enc Tryd.prog Tryd.f3 false true false false) := by
  refine returnsInHanded_of_change_and (C := Tryd.checked) (X := fun w _ => laidMetH Tryd.prog [("keyevent/base64.values", Rows.laid_keyevent_base64_values), ("keyevent/primitive.layouts", Rows.laid_keyevent_primitive_layouts), ("keyevent/stream.shapes", Rows.laid_keyevent_stream_shapes)] w) (fun _ _ _ hh h => h.of_heap hh) own started (by kernel_rfl) Tryd.func3
    (ChangeSpec.witness_shaped (enc := enc) (C := Tryd.checked) (os := os) (X := fun w _ => laidMetH Tryd.prog [("keyevent/base64.values", Rows.laid_keyevent_base64_values), ("keyevent/primitive.layouts", Rows.laid_keyevent_primitive_layouts), ("keyevent/stream.shapes", Rows.laid_keyevent_stream_shapes)] w) false (World.doorLaid Tryd.prog 1991 os) #[.slice none 0 0, .slice none 0 0, .string ⟨#[]⟩, .int .i64 0, .int .i64 0, .int .i64 0, .int .i64 0] 8 rfl (World.shaped_of_RefB (by kernel_rfl) (by kernel_rfl)) (by kernel_rfl) (by kernel_rfl) (by kernel_rfl) (door_met os _)) ?_
  intro W base args ds gs before hval0 hW _ hZ0 hL _
  have hval : ∀ (j : Nat) t v, Tryd.f3.params[j]? = some t → args[j]? = some v → Value.okWide Tryd.prog W .any base t v := hval0
  have hW' := hW
  obtain ⟨p, q, hA0, hV, rfl, hfz, hnd⟩ := hW
  have hA : DataW.TrodAll enc Tryd.prog W 0 (fun _ => true) true Tryd.f3.params.toList args.toList ds p := hA0
  rw [Tryd.params3] at hA hval
  obtain ⟨v0, vs0, d0, ds0, p0, q0, hargs, rfl, rfl, h0, r0⟩ := trodAll_cons hA
  obtain ⟨v1, vs1, d1, ds1, p1, q1, rfl, rfl, rfl, h1, r1⟩ := trodAll_cons r0
  obtain ⟨v2, vs2, d2, ds2, p2, q2, rfl, rfl, rfl, h2, r2⟩ := trodAll_cons r1
  obtain ⟨v3, vs3, d3, ds3, p3, q3, rfl, rfl, rfl, h3, r3⟩ := trodAll_cons r2
  obtain ⟨v4, vs4, d4, ds4, p4, q4, rfl, rfl, rfl, h4, r4⟩ := trodAll_cons r3
  obtain ⟨v5, vs5, d5, ds5, p5, q5, rfl, rfl, rfl, h5, r5⟩ := trodAll_cons r4
  obtain ⟨v6, vs6, d6, ds6, p6, q6, rfl, rfl, rfl, h6, r6⟩ := trodAll_cons r5
  obtain ⟨rfl, rfl, rfl⟩ := trodAll_nil r6
  obtain rfl : args = #[v0, v1, v2, v3, v4, v5, v6] := by cases args; simp_all
  obtain ⟨rfl, rfl⟩ := trodVars_none hV
  obtain ⟨a_l, len_l, cap_l, rfl⟩ := okWide_slice Tryd.underlying22 (hval 0 22 v0 rfl rfl)
  have k_l := h0
  have lt_l : ∀ x ∈ p0, x.block < W.heap.size := by obtain ⟨m, hm⟩ := k_l; exact DataW.trod_lt m _ _ _ hm
  obtain ⟨z_l, row_l⟩ := isRow_open Tryd.underlying22 Tryd.underlying3 (by kernel_rfl) h0
  obtain ⟨a_r, len_r, cap_r, rfl⟩ := okWide_slice Tryd.underlying23 (hval 1 23 v1 rfl rfl)
  have k_r := h1
  have lt_r : ∀ x ∈ p1, x.block < W.heap.size := by obtain ⟨m, hm⟩ := k_r; exact DataW.trod_lt m _ _ _ hm
  obtain ⟨G_r, gr_r⟩ := isGroups_open h1 (fun n hn => by
    have := List.all_eq_true.1 hZ0 n (DataW.weights_mem_each (j := 1) (t := 23) (by rw [Tryd.params3]; rfl) rfl n hn)
    simpa using this)
  obtain ⟨text, rfl, rfl, rfl, hs_text⟩ := open_string Tryd.underlying9 (hval 2 9 v2 rfl rfl) h2
  obtain ⟨a1, rfl, rfl, rfl, w_a1⟩ := open_int Tryd.underlying3 (hval 3 3 v3 rfl rfl) h3
  have bd_a1 := bounds_i64 w_a1
  obtain ⟨a2, rfl, rfl, rfl, w_a2⟩ := open_int Tryd.underlying3 (hval 4 3 v4 rfl rfl) h4
  have bd_a2 := bounds_i64 w_a2
  obtain ⟨a3, rfl, rfl, rfl, w_a3⟩ := open_int Tryd.underlying3 (hval 5 3 v5 rfl rfl) h5
  have bd_a3 := bounds_i64 w_a3
  obtain ⟨a4, rfl, rfl, rfl, w_a4⟩ := open_int Tryd.underlying3 (hval 6 3 v6 rfl rfl) h6
  have bd_a4 := bounds_i64 w_a4
  have hT := tbs_of_laid hL
  clear hA0 hval0
  refine (acts4_all a_l len_l cap_l z_l a_r len_r cap_r G_r text a1 a2 a3 a4 W (NumsB.of_row row_l) gr_r bd_a1.1 bd_a1.2 bd_a2.1 bd_a2.2 bd_a3.1 bd_a3.2 hT).mono fun e W' ⟨he, bel⟩ => ?_
  subst he
  exact ⟨_, rfl, _, _, _, [], _, [], hW', trodAll_mk1 (shut_bool Tryd.underlying4 _), (trodAll_cons_mk (Below.trod laidOut (by kernel_rfl) (of_decide_eq_true (by kernel_rfl)) k_l bel lt_l) (trodAll_cons_mk (Below.trod laidOut (by kernel_rfl) (of_decide_eq_true (by kernel_rfl)) k_r bel lt_r) (trodAll_cons_mk (shut_string Tryd.underlying9 hs_text) (trodAll_cons_mk (shut_int Tryd.underlying3 w_a1) (trodAll_cons_mk (shut_int Tryd.underlying3 w_a2) (trodAll_cons_mk (shut_int Tryd.underlying3 w_a3) (trodAll_cons_mk (shut_int Tryd.underlying3 w_a4) trodAll_mk0))))))), rfl, bel.frame _, fun h => by cases h⟩

theorem over : Rows.StreamActsSaid :=
  OpenClaim.holds_of_wide 3 Tryd.f3 rfl rfl rfl rfl rfl rfl rfl ⟨rfl, rfl, rfl, rfl, rfl⟩ rfl rfl rfl rfl rfl (by kernel_rfl) Tryd.func3 (by kernel_rfl)
    (of_decide_eq_true (by kernel_rfl)) (by unfold Func.isWrapper; first | (rw [if_pos (by decide +kernel)]; kernel_rfl) | (rw [if_neg (by decide +kernel)]; exact ⟨rfl, rfl⟩))
    (fun os started H enc _ => lifted os started H enc)

theorem proved : Rows.StreamActsCardSaid :=
  Claim7.holds_tied_plain_at .later [] [.called, .data, .widerDeep] true Rows.streamActsCard.stood.harness false
    over (fun _ h => by cases h) (by kernel_rfl) (fun _ h => by cases h) streamActs_row_tie rfl ⟨rfl, rfl⟩ (by kernel_rfl) rfl
    (fun f fn hf hfn => by
      obtain rfl : f = 3 := Option.some.inj ((show Tryd.prog.funcNamed "keyevent/keyeventlaw04.StreamActs" = some 3 by kernel_rfl).symm.trans hf) |>.symm
      obtain rfl : fn = Tryd.f3 := (Option.some.inj (Tryd.func3.symm.trans hfn)).symm
      exact ⟨by kernel_rfl, fun j t ht => by
        rw [Tryd.params3] at ht
        have hm : t ∈ [22, 23, 9, 3, 3, 3, 3] := by simpa using Array.mem_of_getElem? ht
        have hall : ([22, 23, 9, 3, 3, 3, 3].all fun u => !Tryd.prog.wantsStandIn u) = true := by kernel_rfl
        exact (show Tryd.prog.wantsStandIn t = false by simpa using List.all_eq_true.1 hall t hm)⟩)
    (by kernel_rfl)
#print axioms proved
end Go.Proofs.YtdmgmfdmakheiaaDoor.StreamActs
