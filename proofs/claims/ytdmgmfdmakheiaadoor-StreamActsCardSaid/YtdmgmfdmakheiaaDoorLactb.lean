/- The walk of the statement StreamActs for any input: an input that is passed over, or the main case. -/
import Derived.Test.YtdmgmfdmakheiaaDoorLacts
namespace Go.Proofs.YtdmgmfdmakheiaaDoor
open Go.ChangeShapes Go.WideShapes Go.ChangeAt Go.RowKit
set_option linter.unusedVariables false
set_option linter.unusedSimpArgs false

set_option maxHeartbeats 1600000 in
set_option maxRecDepth 100000 in
theorem acts4_over (a : Option Addr) (len cap : Nat) (ar : Option Addr) (lr cr : Nat) (text : ByteArray) (kind count at_ by_ : Int) (w : World) (h : ¬ (len : Int) ≤ 500 ∨ 10 < lr ∨ 3000 < text.size) (hT : Tbs w) :
    Calls Tryd.prog 3 #[.slice a len cap, .slice ar lr cr, .string text, .int .i64 kind, .int .i64 count, .int .i64 at_, .int .i64 by_] w fun e w' => e = .returned (.bool true) ∧ Below w.heap.size w w' := by
  have AW := Lib.hid (fun (wx : World) (hx : Tbs wx) => awake4_any wx hx)
  have LI := Lib.hid (fun wx : World => light_any a len cap wx)
  have HT := Lib.hid hT
  have hB := Below.refl w.heap.size w
  clear hT
  by_cases h5 : (len : Int) ≤ 500
  · rw [decide_eq_true h5] at LI
    by_cases hr : 10 < lr
    · have hr' : (10 : Int) < (lr : Int) := by omega
      clear h h5
      go_enter Tryd.func3, Tryd.ntmps3
      go_wp2_with (first
        | (go_at_call 8; (with_reducible refine (LI.out _).mono ?_); rintro e w3 ⟨rfl, rfl⟩)
        | (go_at_call 9; (with_reducible refine (AW.out _ (HT.out.at hB)).mono ?_); rintro e wn ⟨rfl, hb⟩; replace hB := hB.trans (hb.mono hB.size); clear hb))
      go_ret
      exact ⟨rfl, hB⟩
    · have hr' : ¬ (10 : Int) < (lr : Int) := by omega
      have ht : 3000 < text.size := by rcases h with h | h | h; exact absurd h5 h; exact absurd h hr; exact h
      have ht' : (3000 : Int) < (text.size : Int) := by omega
      clear h h5
      go_enter Tryd.func3, Tryd.ntmps3
      go_wp2_with (first
        | (go_at_call 8; (with_reducible refine (LI.out _).mono ?_); rintro e w3 ⟨rfl, rfl⟩)
        | (go_at_call 9; (with_reducible refine (AW.out _ (HT.out.at hB)).mono ?_); rintro e wn ⟨rfl, hb⟩; replace hB := hB.trans (hb.mono hB.size); clear hb))
      go_ret
      exact ⟨rfl, hB⟩
  · rw [decide_eq_false h5] at LI
    clear h h5
    go_enter Tryd.func3, Tryd.ntmps3
    go_wp2_with (first
      | (go_at_call 8; (with_reducible refine (LI.out _).mono ?_); rintro e w3 ⟨rfl, rfl⟩)
      | (go_at_call 9; (with_reducible refine (AW.out _ (HT.out.at hB)).mono ?_); rintro e wn ⟨rfl, hb⟩; replace hB := hB.trans (hb.mono hB.size); clear hb))
    go_ret
    exact ⟨rfl, hB⟩
theorem acts4_all (a : Option Addr) (len cap : Nat) (zs : List Int) (ar : Option Addr) (lr cr : Nat) (D : List Grp) (text : ByteArray) (kind count at_ by_ : Int) (w : World) (hn : NumsB w.heap.size w a len cap zs) (hD : GroupsAt w.heap.size w (.slice ar lr cr) D)
    (q1 : -9223372036854775808 ≤ kind) (q2 : kind ≤ 9223372036854775807) (c1 : -9223372036854775808 ≤ count) (c2 : count ≤ 9223372036854775807) (a1 : -9223372036854775808 ≤ at_) (a2 : at_ ≤ 9223372036854775807) (hT : Tbs w) :
    Calls Tryd.prog 3 #[.slice a len cap, .slice ar lr cr, .string text, .int .i64 kind, .int .i64 count, .int .i64 at_, .int .i64 by_] w fun e w' => e = .returned (.bool true) ∧ Below w.heap.size w w' := by
  by_cases h : ¬ (len : Int) ≤ 500 ∨ 10 < lr ∨ 3000 < text.size
  · exact acts4_over a len cap ar lr cr text kind count at_ by_ w h hT
  · exact acts4_walk a len cap zs ar lr cr D text kind count at_ by_ w hn hD (by omega) (by omega) (by omega) q1 q2 c1 c2 a1 a2 hT

end Go.Proofs.YtdmgmfdmakheiaaDoor
