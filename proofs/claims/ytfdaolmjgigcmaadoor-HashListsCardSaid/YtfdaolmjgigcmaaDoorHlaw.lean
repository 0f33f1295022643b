/- Pad of both sides, the sanity check of the statements of hash, strings of zeros. -/
import Derived.Test.YtfdaolmjgigcmaaDoorHrefd
namespace Go.Proofs.YtfdaolmjgigcmaaDoor
open Go.ChangeShapes Go.WideShapes Go.ChangeAt Go.RowKit
set_option linter.unusedVariables false
set_option linter.unusedSimpArgs false

/-- What Pad returns. -/
def padV (s : ByteArray) : Value := if s.size ≤ 1048576 then .tuple #[.string ⟨(padL s.data.toList s.size).toArray⟩, .int .i64 0] else .tuple #[.string ⟨#[]⟩, .int .i64 3]

set_option maxRecDepth 100000 in
theorem Pad_any (s : ByteArray) (w : World) (hs : s.size ≤ 1099511627776) :
    Calls Tryd.prog 8 #[.string s] w fun e w' => e = .returned (padV s) ∧ Below w.heap.size w w' := by
  by_cases h : s.size ≤ 1048576
  · have e : padV s = .tuple #[.string ⟨(padL s.data.toList s.size).toArray⟩, .int .i64 0] := if_pos h
    rw [e]
    obtain ⟨p, hp⟩ : ∃ p : ByteArray, p = ⟨(padL s.data.toList s.size).toArray⟩ := ⟨_, rfl⟩
    have PD := Lib.hid (padded_any s s.size w hs hs)
    rw [← hp] at PD ⊢
    clear hp e
    go_enter Tryd.func8, Tryd.ntmps8
    go_wp2_with (go_at_call 18; (with_reducible refine PD.out.mono ?_); rintro e w1 ⟨rfl, hb1⟩)
    go_ret2
    exact ⟨rfl, hb1⟩
  · have e : padV s = .tuple #[.string ⟨#[]⟩, .int .i64 3] := if_neg h
    rw [e]
    clear e
    go_enter Tryd.func8, Tryd.ntmps8
    go_wp2
    go_ret2
    exact ⟨rfl, Below.refl _ _⟩
set_option maxRecDepth 100000 in
theorem rPad_any (s : ByteArray) (w : World) (hs : s.size ≤ 1099511627776) :
    Calls Tryd.prog 9 #[.string s] w fun e w' => e = .returned (padV s) ∧ Below w.heap.size w w' := by
  by_cases h : s.size ≤ 1048576
  · have e : padV s = .tuple #[.string ⟨(padL s.data.toList s.size).toArray⟩, .int .i64 0] := if_pos h
    rw [e]
    obtain ⟨p, hp⟩ : ∃ p : ByteArray, p = ⟨(padL s.data.toList s.size).toArray⟩ := ⟨_, rfl⟩
    have PD := Lib.hid (pad_any s w hs)
    rw [← hp] at PD ⊢
    clear hp e
    go_enter Tryd.func9, Tryd.ntmps9
    go_wp2_with (go_at_call 19; (with_reducible refine PD.out.mono ?_); rintro e w1 ⟨rfl, hb1⟩)
    go_ret2
    exact ⟨rfl, hb1⟩
  · have e : padV s = .tuple #[.string ⟨#[]⟩, .int .i64 3] := if_neg h
    rw [e]
    clear e
    go_enter Tryd.func9, Tryd.ntmps9
    go_wp2
    go_ret2
    exact ⟨rfl, Below.refl _ _⟩
set_option maxRecDepth 100000 in
theorem awake2_any (w : World) (hT : STab w) : Calls Tryd.prog 7 #[] w fun e w' => e = .returned (.bool true) ∧ Below w.heap.size w w' := by
  have A1 := Lib.hid (fun (wx : World) (h : STab wx) => sum_any { data := #[97, 98, 99] } wx (by decide) h)
  rw [show ({ data := #[97, 98, 99] } : ByteArray).data.toList = [97, 98, 99] from rfl, sum_abc] at A1
  have A2 := Lib.hid (fun (wx : World) (h : STab wx) => sum_any { data := #[] } wx (by decide) h)
  rw [show ({ data := #[] } : ByteArray).data.toList = [] from rfl, sum_empty] at A2
  go_enter Tryd.func7, Tryd.ntmps7
  go_wp2_with (go_at_call 10; first | ((with_reducible refine (A1.out _ hT).mono ?_); rintro e w1 ⟨rfl, hb1⟩) | ((with_reducible refine (A2.out _ (hT.below hb1)).mono ?_); rintro e w2 ⟨rfl, hb2⟩))
  go_ret
  exact ⟨rfl, hb1.trans (hb2.mono hb1.size)⟩

/-- 'string(make([]byte, n))'. -/
theorem zeros_string {w1 : World} {B N : Nat} {v : Value} (h : w1.ownsRow B 5 1 v N (madeCells (Value.int .u8 0).cells (N * 1)).toList) : (convert 24 9 v).run Tryd.prog w1 = .ok (.string ⟨(List.replicate N (0 : UInt8)).toArray⟩) w1 := by
  rw [show (Value.int .u8 0).cells = #[.int .u8 0] from rfl, toList_madeCells_one, Nat.mul_one] at h
  exact conv_owns (P := Tryd.prog) w1 24 9 5 B N v (List.replicate N 0) (by simpa using h) Tryd.underlying24 Tryd.underlying5 Tryd.underlying9
theorem zeros_size (N : Nat) : (⟨(List.replicate N (0 : UInt8)).toArray⟩ : ByteArray).size = N := by show (List.replicate N (0 : UInt8)).toArray.size = N; simp

end Go.Proofs.YtfdaolmjgigcmaaDoor
