/- The statement KeytreeActs (its card): for every input the Go function returns true, and each argument reads as it did. Its condition: the listed package variables read as the program's own start-up lays them, which the card ties to the program's text. -/
import Derived.Test.YtpophimnoakinaaDoorCards
import Derived.Test.YtpophimnoakinaaDoorTie
import Derived.Test.YtpophimnoakinaaDoorKac
import Derived.SevenTiedAt
import Derived.ChangeOld
import Derived.ShutString
namespace Go.Proofs.YtpophimnoakinaaDoor.KeytreeActs
open Go Go.ChangeShapes Go.WideShapes Go.ChangeAt Go.RowKit
open Go.ChangeMaps (open_string shut_string)
set_option linter.unusedVariables false

set_option maxRecDepth 100000 in
theorem lifted (os : Os) (started : os.Started) (H : Type) (enc : TypeId × Value → H) :
    ReturnsInHanded {} Tryd.checked os 3 .any (fun w args => (Rows.keytreeActsSpec.pre enc Tryd.prog Tryd.f3 [] false w args ∧ laidMetH Tryd.prog [("keyevent/base64.values", Rows.laid_keyevent_base64_values), ("keyevent/primitive.layouts", Rows.laid_keyevent_primitive_layouts), ("keyevent/hash.roundConstants", Rows.laid_keyevent_hash_roundConstants), ("keyevent/hash.startSums", Rows.laid_keyevent_hash_startSums)] w) ∧ sizedMet enc Tryd.prog Tryd.f3 (OpenSpec.ofChange Rows.keytreeActsSpec) false w args)
      (Rows.keytreeActsSpec.post enc Tryd.prog Tryd.f3 false true false false) := by
  refine returnsInHanded_of_change_and (C := Tryd.checked) (X := fun w _ => laidMetH Tryd.prog [("keyevent/base64.values", Rows.laid_keyevent_base64_values), ("keyevent/primitive.layouts", Rows.laid_keyevent_primitive_layouts), ("keyevent/hash.roundConstants", Rows.laid_keyevent_hash_roundConstants), ("keyevent/hash.startSums", Rows.laid_keyevent_hash_startSums)] w) (fun _ _ _ hh h => h.of_heap hh) own started (by kernel_rfl) Tryd.func3
    (ChangeSpec.witness_shaped (enc := enc) (C := Tryd.checked) (os := os) (X := fun w _ => laidMetH Tryd.prog [("keyevent/base64.values", Rows.laid_keyevent_base64_values), ("keyevent/primitive.layouts", Rows.laid_keyevent_primitive_layouts), ("keyevent/hash.roundConstants", Rows.laid_keyevent_hash_roundConstants), ("keyevent/hash.startSums", Rows.laid_keyevent_hash_startSums)] w) false (World.doorLaid Tryd.prog 1988 os) #[.string ⟨#[]⟩, .string ⟨#[]⟩, .string ⟨#[]⟩, .string ⟨#[]⟩, .int .i64 0, .int .i64 0, .int .i64 0] 8 rfl (World.shaped_of_RefB (by kernel_rfl) (by kernel_rfl)) (by kernel_rfl) (by kernel_rfl) (by kernel_rfl) (door_met os _)) ?_
  intro W base args ds gs before hval0 hW _ hZ0 hL _
  have hval : ∀ (j : Nat) t v, Tryd.f3.params[j]? = some t → args[j]? = some v → Value.okWide Tryd.prog W .any base t v := hval0
  have hW' := hW
  obtain ⟨p, q, hA0, hV, rfl, hfz, hnd⟩ := hW
  have hA : DataW.TrodAll enc Tryd.prog W 0 (fun _ => true) true Tryd.f3.params.toList args.toList ds p := hA0
  rw [Tryd.params3] at hA hval
  obtain ⟨v0, vs0, d0, ds0, p0, q0, hargs, rfl, rfl, h0, r0⟩ := trodAll_cons hA
  obtain ⟨v1, vs1, d1, ds1, p1, q1, rfl, rfl, rfl, h1, r1⟩ := trodAll_cons r0
  obtain ⟨v2, vs2, d2, ds2, p2, q2, rfl, rfl, rfl, h2, r2⟩ := trodAll_cons r1
  obtain ⟨v3, vs3, d3, ds3, p3, q3, rfl, rfl, rfl, h3, r3⟩ := trodAll_cons r2
  obtain ⟨v4, vs4, d4, ds4, p4, q4, rfl, rfl, rfl, h4, r4⟩ := trodAll_cons r3
  obtain ⟨v5, vs5, d5, ds5, p5, q5, rfl, rfl, rfl, h5, r5⟩ := trodAll_cons r4
  obtain ⟨v6, vs6, d6, ds6, p6, q6, rfl, rfl, rfl, h6, r6⟩ := trodAll_cons r5
  obtain ⟨rfl, rfl, rfl⟩ := trodAll_nil r6
  obtain rfl : args = #[v0, v1, v2, v3, v4, v5, v6] := by cases args; simp_all
  obtain ⟨rfl, rfl⟩ := trodVars_none hV
  obtain ⟨seed, rfl, rfl, rfl, hs_seed⟩ := open_string Tryd.underlying9 (hval 0 9 v0 rfl rfl) h0
  obtain ⟨m, rfl, rfl, rfl, hs_m⟩ := open_string Tryd.underlying9 (hval 1 9 v1 rfl rfl) h1
  obtain ⟨raw, rfl, rfl, rfl, hs_raw⟩ := open_string Tryd.underlying9 (hval 2 9 v2 rfl rfl) h2
  obtain ⟨key, rfl, rfl, rfl, hs_key⟩ := open_string Tryd.underlying9 (hval 3 9 v3 rfl rfl) h3
  obtain ⟨use_, rfl, rfl, rfl, w_use_⟩ := open_int Tryd.underlying3 (hval 4 3 v4 rfl rfl) h4
  have bd_use_ := bounds_i64 w_use_
  obtain ⟨at_, rfl, rfl, rfl, w_at_⟩ := open_int Tryd.underlying3 (hval 5 3 v5 rfl rfl) h5
  have bd_at_ := bounds_i64 w_at_
  obtain ⟨by_, rfl, rfl, rfl, w_by_⟩ := open_int Tryd.underlying3 (hval 6 3 v6 rfl rfl) h6
  have bd_by_ := bounds_i64 w_by_
  have hT := ktab_of_laid hL
  clear hA0 hval0
  refine (acts12_walk seed m raw key use_ at_ by_ W bd_use_.1 bd_use_.2 bd_at_.1 bd_at_.2 hT).mono fun e W' ⟨he, bel⟩ => ?_
  subst he
  exact ⟨_, rfl, _, _, _, [], _, [], hW', trodAll_mk1 (shut_bool Tryd.underlying4 _), (trodAll_cons_mk (shut_string Tryd.underlying9 hs_seed) (trodAll_cons_mk (shut_string Tryd.underlying9 hs_m) (trodAll_cons_mk (shut_string Tryd.underlying9 hs_raw) (trodAll_cons_mk (shut_string Tryd.underlying9 hs_key) (trodAll_cons_mk (shut_int Tryd.underlying3 w_use_) (trodAll_cons_mk (shut_int Tryd.underlying3 w_at_) (trodAll_cons_mk (shut_int Tryd.underlying3 w_by_) trodAll_mk0))))))), rfl, bel.frame _, fun h => by cases h⟩

theorem over : Rows.KeytreeActsSaid :=
  OpenClaim.holds_of_wide 3 Tryd.f3 rfl rfl rfl rfl rfl rfl rfl ⟨rfl, rfl, rfl, rfl, rfl⟩ rfl rfl rfl rfl rfl (by kernel_rfl) Tryd.func3 (by kernel_rfl)
    (of_decide_eq_true (by kernel_rfl)) (by unfold Func.isWrapper; first | (rw [if_pos (by decide +kernel)]; kernel_rfl) | (rw [if_neg (by decide +kernel)]; exact ⟨rfl, rfl⟩))
    (fun os started H enc _ => lifted os started H enc)

theorem proved : Rows.KeytreeActsCardSaid :=
  Claim7.holds_tied_plain_at .later [] [.called, .data, .data, .data] true Rows.keytreeActsCard.stood.harness false
    over (fun _ h => by cases h) (by kernel_rfl) (fun _ h => by cases h) keytreeActs_row_tie rfl ⟨rfl, rfl⟩ (by kernel_rfl) rfl
    (fun f fn hf hfn => by
      obtain rfl : f = 3 := Option.some.inj ((show Tryd.prog.funcNamed "keyevent/keyeventlaw12.KeytreeActs" = some 3 by kernel_rfl).symm.trans hf) |>.symm
      obtain rfl : fn = Tryd.f3 := (Option.some.inj (Tryd.func3.symm.trans hfn)).symm
      exact ⟨by kernel_rfl, fun j t ht => by
        rw [Tryd.params3] at ht
        have hm : t ∈ [9, 9, 9, 9, 3, 3, 3] := by simpa using Array.mem_of_getElem? ht
        have hall : ([9, 9, 9, 9, 3, 3, 3].all fun u => !Tryd.prog.wantsStandIn u) = true := by kernel_rfl
        exact (show Tryd.prog.wantsStandIn t = false by simpa using List.all_eq_true.1 hall t hm)⟩)
    (by kernel_rfl)
#print axioms proved
end Go.Proofs.YtpophimnoakinaaDoor.KeytreeActs
