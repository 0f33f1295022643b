/- The walk of HashSums: the padded strings and the sums of both sides agree. -/
import Derived.Test.YtfdaolmjgigcmaaDoorHlaw
namespace Go.Proofs.YtfdaolmjgigcmaaDoor
open Go.ChangeShapes Go.WideShapes Go.ChangeAt Go.RowKit
set_option linter.unusedVariables false
set_option linter.unusedSimpArgs false

theorem row_str {w : World} {g : Nat} {T : TypeId} {cap : Nat} {l : List ByteArray} {b : Nat} (h : Row w g T cap (l.map Value.string)) (hb : ∀ y ∈ l, y.size ≤ b) {j : Nat} (hj : j < l.length) :
    ∃ y : ByteArray, y.size ≤ b ∧ w.cell? ⟨g, j, none⟩ = some (.string y) :=
  ⟨l[j], hb _ (List.getElem_mem hj), h.cellAt (by simp [hj])⟩
theorem padV_form (y : ByteArray) : ∃ (p : ByteArray) (e : Int), padV y = .tuple #[.string p, .int .i64 e] := by
  unfold padV
  split
  · exact ⟨_, _, rfl⟩
  · exact ⟨_, _, rfl⟩

set_option maxHeartbeats 800000 in
set_option maxRecDepth 100000 in
theorem sums_walk (s : ByteArray) (more : Int) (w : World) (m0 : 0 ≤ more) (m1 : more ≤ 65535) (hT : STab w) :
    Calls Tryd.prog 3 #[.string s, .int .u16 more] w fun e w' => e = .returned (.bool true) ∧ Below w.heap.size w w' := by
  obtain ⟨i0, hi, hz0, hz1, hz2⟩ := info_parts Tryd.infob
  by_cases hs : s.size ≤ 1000
  · obtain ⟨N, hN⟩ : ∃ k : Nat, more % 300 = (k : Int) := ⟨(more % 300).toNat, by omega⟩
    have hN3 : N < 300 := by omega
    obtain ⟨z, hz⟩ : ∃ z : ByteArray, z = ⟨(List.replicate N (0 : UInt8)).toArray⟩ := ⟨_, rfl⟩
    have hzs : z.size = N := by rw [hz]; exact zeros_size N
    have C1 : Hid (∀ (w1 : World) (B : Nat) (v : Value), w1.ownsRow B 5 1 v N (madeCells (Value.int .u8 0).cells (N * 1)).toList → (convert 24 9 v).run Tryd.prog w1 = .ok (.string z) w1) := Lib.hid (fun w1 B v h => by rw [hz]; exact zeros_string h)
    obtain ⟨q, hq⟩ : ∃ q : ByteArray, s ++ z = q := ⟨_, rfl⟩
    have hqs : q.size ≤ 1300 := by rw [← hq, ByteArray.size_append, hzs]; omega
    have hB : Below w.heap.size w w := Below.refl _ _
    have HT := Lib.hid hT
    clear hz hT
    go_enter Tryd.func3, Tryd.ntmps3
    go_wp2_with (at_make; refine wpList_make_full _ rfl _ _ 24 rfl _ 5 i0 (.int .u8 0) 1 Tryd.underlying24 hi hz0 hz1 .u16 .u16 _ _ N rfl rfl hN hN (by rw [hz2]; omega) (by unfold maxLen; omega) (Nat.le_refl _) ?_; intro w1 hown hgrow; replace hB := hB.grown hgrow hB.size (fun _ e => by cases e); have hcv := C1.out _ _ _ hown; clear hown hgrow)
    have hrow : Row (w1.alloc (.cells #[.string s, .string q] 9)) w1.heap.size 9 2 ([s, q].map Value.string) := Row.new w1 _ _ _ (by simp) (by simp)
    have hB1 := hB.alloc hB.size (.cells #[.string s, .string q] 9)
    have hw1 := hB.size
    clear hB hcv
    go_loopw [24] (fun i wr => ∃ j : Nat, j ≤ 2 ∧ i = .int .i64 j ∧ Row wr w1.heap.size 9 2 ([s, q].map Value.string) ∧ Below w.heap.size w wr) (fun i _ => 2 - (intOf i).toNat)
    case atStart => exact ⟨0, by omega, rfl, hrow, hB1⟩
    case round =>
      clear hrow hB1
      obtain ⟨j, hj, rfl, hrow, hB⟩ := hrel
      by_cases hlt : j < 2
      · obtain ⟨y, hy, hcell⟩ := row_str hrow (b := 1300) (by intro y hy; simp at hy; rcases hy with rfl | rfl <;> omega) (j := j) (by simpa using hlt)
        obtain ⟨p, pe, hp⟩ := padV_form y
        have P1 := Lib.hid (fun (wx : World) => Pad_any y wx (by omega))
        have P2 := Lib.hid (fun (wx : World) => rPad_any y wx (by omega))
        rw [hp] at P1 P2
        have S1 := Lib.hid (fun (wx : World) (h : STab wx) => sum_any y wx (by omega) h)
        have S2 := Lib.hid (fun (wx : World) => rsum_any y wx (by omega))
        obtain ⟨sm, hsm⟩ : ∃ sm : ByteArray, sm = ⟨(sumL y.data.toList).toArray⟩ := ⟨_, rfl⟩
        rw [← hsm] at S1 S2
        have HB := Lib.hid hB
        have HR := Lib.hid hrow
        have i2 : (j : Int) < 2 := by omega
        clear hsm hp hB hrow
        go_wp2_with (first
          | (go_at_call 8; (with_reducible refine (P1.out _).mono ?_); rintro e w2 ⟨rfl, hb2⟩)
          | (go_at_call 9; (with_reducible refine (P2.out _).mono ?_); rintro e w3 ⟨rfl, hb3⟩)
          | (go_at_call 10; have hb23 := HB.out.trans ((hb2.mono HB.out.size).trans (hb3.mono (Nat.le_trans HB.out.size hb2.size))); (with_reducible refine (S1.out _ (HT.out.below hb23)).mono ?_); rintro e w4 ⟨rfl, hb4⟩)
          | (go_at_call 11; (with_reducible refine (S2.out _).mono ?_); rintro e w5 ⟨rfl, hb5⟩))
        go_roundw
        case rel =>
          have hx := hb2.trans ((hb3.mono hb2.size).trans ((hb4.mono (Nat.le_trans hb2.size hb3.size)).trans (hb5.mono (Nat.le_trans hb2.size (Nat.le_trans hb3.size hb4.size)))))
          exact ⟨j + 1, by omega, rfl, HR.out.below hx HR.out.lt, HB.out.trans (hx.mono HB.out.size)⟩
        case measure => simp [intOf]; omega
      · obtain rfl : j = 2 := by omega
        go_wp2_with (go_at_call 7; (with_reducible refine (awake2_any _ (HT.out.below hB)).mono ?_); rintro e w2 ⟨rfl, hb2⟩)
        go_ret
        exact ⟨rfl, hB.trans (hb2.mono hB.size)⟩
  · go_enter Tryd.func3, Tryd.ntmps3
    go_wp2_with (go_at_call 7; (with_reducible refine (awake2_any _ hT).mono ?_); rintro e w2 ⟨rfl, hb2⟩)
    go_ret
    exact ⟨rfl, hb2⟩

end Go.Proofs.YtfdaolmjgigcmaaDoor
