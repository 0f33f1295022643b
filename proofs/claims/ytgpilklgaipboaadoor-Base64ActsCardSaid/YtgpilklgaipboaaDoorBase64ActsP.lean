/- The statement Base64Acts (its card): all functions return what the document's own functions return, whatever the strings and numbers are: the Go function returns true. Its condition: the listed package variables read as the program's own start-up lays them, which the card ties to the program's text. -/
import Derived.Test.YtgpilklgaipboaaDoorActs
import Derived.Test.YtgpilklgaipboaaDoorLaid
import Derived.Test.YtgpilklgaipboaaDoorCards
import Derived.Test.YtgpilklgaipboaaDoorTie
import Derived.SevenTiedAt
import Derived.ChangeOld
import Derived.ShutString
namespace Go.Proofs.YtgpilklgaipboaaDoor.Base64Acts
open Go Go.ChangeShapes Go.WideShapes Go.ChangeAt Go.RowKit
open Go.ChangeMaps (open_string shut_string)
set_option linter.unusedVariables false

set_option maxRecDepth 100000 in
theorem lifted (os : Os) (started : os.Started) (H : Type) (enc : TypeId × Value → H) :
    ReturnsInHanded {} Tryd.checked os 3 .any (fun w args => (Rows.base64ActsSpec.pre enc Tryd.prog Tryd.f3 [] false w args ∧ laidMetH Tryd.prog [("keyevent/base64.values", Rows.laid_keyevent_base64_values)] w) ∧ sizedMet enc Tryd.prog Tryd.f3 (OpenSpec.ofChange Rows.base64ActsSpec) false w args)
      (Rows.base64ActsSpec.post enc Tryd.prog Tryd.f3 false true false false) := by
  refine returnsInHanded_of_change_and (C := Tryd.checked) (X := fun w _ => laidMetH Tryd.prog [("keyevent/base64.values", Rows.laid_keyevent_base64_values)] w) (fun _ _ _ hh h => h.of_heap hh) own started (by kernel_rfl) Tryd.func3
    (ChangeSpec.witness_shaped (enc := enc) (C := Tryd.checked) (os := os) (X := fun w _ => laidMetH Tryd.prog [("keyevent/base64.values", Rows.laid_keyevent_base64_values)] w) false (World.doorLaid Tryd.prog 1965 os) #[.string ⟨#[]⟩, .string ⟨#[]⟩, .int .i64 0, .int .i64 0, .int .u8 0] 8 rfl (World.shaped_of_RefB (by kernel_rfl) (by kernel_rfl)) (by kernel_rfl) (by kernel_rfl) (by kernel_rfl) (door_met os _)) ?_
  intro W base args ds gs before hval0 hW _ _ hL _
  have hval : ∀ (j : Nat) t v, Tryd.f3.params[j]? = some t → args[j]? = some v → Value.okWide Tryd.prog W .any base t v := hval0
  have hW' := hW
  obtain ⟨p, q, hA0, hV, rfl, hfz, hnd⟩ := hW
  have hA : DataW.TrodAll enc Tryd.prog W 0 (fun _ => true) true Tryd.f3.params.toList args.toList ds p := hA0
  rw [Tryd.params3] at hA hval
  obtain ⟨v0, vs0, d0, ds0, p0, q0, hargs, rfl, rfl, h0, r0⟩ := trodAll_cons hA
  obtain ⟨v1, vs1, d1, ds1, p1, q1, rfl, rfl, rfl, h1, r1⟩ := trodAll_cons r0
  obtain ⟨v2, vs2, d2, ds2, p2, q2, rfl, rfl, rfl, h2, r2⟩ := trodAll_cons r1
  obtain ⟨v3, vs3, d3, ds3, p3, q3, rfl, rfl, rfl, h3, r3⟩ := trodAll_cons r2
  obtain ⟨v4, vs4, d4, ds4, p4, q4, rfl, rfl, rfl, h4, r4⟩ := trodAll_cons r3
  obtain ⟨rfl, rfl, rfl⟩ := trodAll_nil r4
  obtain rfl : args = #[v0, v1, v2, v3, v4] := by cases args; simp_all
  obtain ⟨rfl, rfl⟩ := trodVars_none hV
  obtain ⟨s, rfl, rfl, rfl, hs_s⟩ := open_string Tryd.underlying9 (hval 0 9 v0 rfl rfl) h0
  obtain ⟨t, rfl, rfl, rfl, hs_t⟩ := open_string Tryd.underlying9 (hval 1 9 v1 rfl rfl) h1
  obtain ⟨n, rfl, rfl, rfl, w_n⟩ := open_int Tryd.underlying3 (hval 2 3 v2 rfl rfl) h2
  have bd_n := bounds_i64 w_n
  obtain ⟨k, rfl, rfl, rfl, w_k⟩ := open_int Tryd.underlying3 (hval 3 3 v3 rfl rfl) h3
  have bd_k := bounds_i64 w_k
  obtain ⟨c, rfl, rfl, rfl, w_c⟩ := open_int Tryd.underlying5 (hval 4 5 v4 rfl rfl) h4
  have bd_c := bounds_u8 w_c
  have hT := tab_of_laid hL
  clear hA0 hval0
  refine (acts_all s t n k c W hs_s hs_t bd_n bd_k bd_c hT (size_of_laid hT)).mono fun e W' ⟨he, bel⟩ => ?_
  subst he
  exact ⟨_, rfl, _, _, _, [], _, [], hW', trodAll_mk1 (shut_bool Tryd.underlying4 _), (trodAll_cons_mk (shut_string Tryd.underlying9 hs_s) (trodAll_cons_mk (shut_string Tryd.underlying9 hs_t) (trodAll_cons_mk (shut_int Tryd.underlying3 w_n) (trodAll_cons_mk (shut_int Tryd.underlying3 w_k) (trodAll_cons_mk (shut_int Tryd.underlying5 w_c) trodAll_mk0))))), rfl, bel.frame _, fun h => by cases h⟩

theorem over : Rows.Base64ActsSaid :=
  OpenClaim.holds_of_wide 3 Tryd.f3 rfl rfl rfl rfl rfl rfl rfl ⟨rfl, rfl, rfl, rfl, rfl⟩ rfl rfl rfl rfl rfl (by kernel_rfl) Tryd.func3 (by kernel_rfl)
    (of_decide_eq_true (by kernel_rfl)) (by unfold Func.isWrapper; first | (rw [if_pos (by decide +kernel)]; kernel_rfl) | (rw [if_neg (by decide +kernel)]; exact ⟨rfl, rfl⟩))
    (fun os started H enc _ => lifted os started H enc)

theorem proved : Rows.Base64ActsCardSaid :=
  Claim7.holds_tied_plain_at .later [] [.called] true Rows.base64ActsCard.stood.harness false
    over (fun _ h => by cases h) (by kernel_rfl) (fun _ h => by cases h) base64Acts_row_tie rfl ⟨rfl, rfl⟩ (by kernel_rfl) rfl
    (fun f fn hf hfn => by
      obtain rfl : f = 3 := Option.some.inj ((show Tryd.prog.funcNamed "keyevent/keyeventlaw01.Base64Acts" = some 3 by kernel_rfl).symm.trans hf) |>.symm
      obtain rfl : fn = Tryd.f3 := (Option.some.inj (Tryd.func3.symm.trans hfn)).symm
      exact ⟨by kernel_rfl, fun j t ht => by
        rw [Tryd.params3] at ht
        have hm : t ∈ [9, 9, 3, 3, 5] := by simpa using Array.mem_of_getElem? ht
        have hall : ([9, 9, 3, 3, 5].all fun u => !Tryd.prog.wantsStandIn u) = true := by kernel_rfl
        exact (show Tryd.prog.wantsStandIn t = false by simpa using List.all_eq_true.1 hall t hm)⟩)
    (by kernel_rfl)
#print axioms proved
end Go.Proofs.YtgpilklgaipboaaDoor.Base64Acts
