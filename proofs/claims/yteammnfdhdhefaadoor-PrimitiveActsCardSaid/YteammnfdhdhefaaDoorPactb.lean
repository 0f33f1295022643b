/- The walk of the statement PrimitiveActs for any input: an input that is passed over, or the main case. -/
import Derived.Test.YteammnfdhdhefaaDoorPacts
namespace Go.Proofs.YteammnfdhdhefaaDoor
open Go.ChangeShapes Go.WideShapes Go.ChangeAt Go.RowKit
set_option linter.unusedVariables false
set_option linter.unusedSimpArgs false

set_option maxHeartbeats 1600000 in
set_option maxRecDepth 100000 in
theorem acts3_over (a : Option Addr) (len cap : Nat) (rc : Int) (rr text : ByteArray) (at_ by_ code : Int) (w : World) (hrm : rr.size ≤ maxLen) (htm : text.size ≤ maxLen) (h : ¬ (len : Int) ≤ 500 ∨ 2000 < rr.size ∨ 2000 < text.size) (hL : Lay w) :
    Calls Tryd.prog 3 #[.slice a len cap, .agg #[.int .i64 rc, .string rr], .string text, .int .i64 at_, .int .i64 by_, .int .i64 code] w fun e w' => e = .returned (.bool true) ∧ Below w.heap.size w w' := by
  unfold maxLen at hrm htm
  have AW := Lib.hid (fun (wx : World) (hx : Lay wx) => awake3_any wx hx)
  have LI := Lib.hid (fun wx : World => light_any a len cap wx)
  have hB := (Below.refl w.heap.size w).alloc (o := .cells #[.int .i64 rc, .string rr] 24) (Nat.le_refl _)
  have hR0 := two_new w (.int .i64 rc) (.string rr) 24
  have hLT := hL.lt
  have HL := Lib.hid hL
  clear hL
  by_cases h5 : (len : Int) ≤ 500
  · rw [decide_eq_true h5] at LI
    by_cases hr : 2000 < rr.size
    · have hr' : (2000 : Int) < (rr.size : Int) := by omega
      clear h h5
      go_enter Tryd.func3, Tryd.ntmps3
      go_wp2_with (first
        | (go_at_call 9; (with_reducible refine (LI.out _).mono ?_); rintro e w3 ⟨rfl, rfl⟩)
        | (go_at_call 10; (with_reducible refine (AW.out _ (HL.out.below hLT hB)).mono ?_); rintro e wn ⟨rfl, hb⟩; replace hB := hB.trans (hb.mono hB.size); clear hb))
      go_ret
      exact ⟨rfl, hB⟩
    · have hr' : ¬ (2000 : Int) < (rr.size : Int) := by omega
      have ht : 2000 < text.size := by rcases h with h | h | h; exact absurd h5 h; exact absurd h hr; exact h
      have ht' : (2000 : Int) < (text.size : Int) := by omega
      clear h h5
      go_enter Tryd.func3, Tryd.ntmps3
      go_wp2_with (first
        | (go_at_call 9; (with_reducible refine (LI.out _).mono ?_); rintro e w3 ⟨rfl, rfl⟩)
        | (go_at_call 10; (with_reducible refine (AW.out _ (HL.out.below hLT hB)).mono ?_); rintro e wn ⟨rfl, hb⟩; replace hB := hB.trans (hb.mono hB.size); clear hb))
      go_ret
      exact ⟨rfl, hB⟩
  · rw [decide_eq_false h5] at LI
    clear h h5
    go_enter Tryd.func3, Tryd.ntmps3
    go_wp2_with (first
      | (go_at_call 9; (with_reducible refine (LI.out _).mono ?_); rintro e w3 ⟨rfl, rfl⟩)
      | (go_at_call 10; (with_reducible refine (AW.out _ (HL.out.below hLT hB)).mono ?_); rintro e wn ⟨rfl, hb⟩; replace hB := hB.trans (hb.mono hB.size); clear hb))
    go_ret
    exact ⟨rfl, hB⟩
theorem acts3_all (a : Option Addr) (len cap : Nat) (zs : List Int) (rc : Int) (rr text : ByteArray) (at_ by_ code : Int) (w : World) (hn : NumsB w.heap.size w a len cap zs) (hrm : rr.size ≤ maxLen) (htm : text.size ≤ maxLen)
    (a1 : -9223372036854775808 ≤ at_) (a2 : at_ ≤ 9223372036854775807) (c1 : -9223372036854775808 ≤ code) (c2 : code ≤ 9223372036854775807) (hT : Tab w) (hL : Lay w) :
    Calls Tryd.prog 3 #[.slice a len cap, .agg #[.int .i64 rc, .string rr], .string text, .int .i64 at_, .int .i64 by_, .int .i64 code] w fun e w' => e = .returned (.bool true) ∧ Below w.heap.size w w' := by
  by_cases h : ¬ (len : Int) ≤ 500 ∨ 2000 < rr.size ∨ 2000 < text.size
  · exact acts3_over a len cap rc rr text at_ by_ code w hrm htm h hL
  · exact acts3_walk a len cap zs rc rr text at_ by_ code w hn (by omega) (by omega) (by omega) a1 a2 c1 c2 hT hL

end Go.Proofs.YteammnfdhdhefaaDoor
