/- The walk of HashLists: the sums of pairs and lists, and short sums, of both sides agree. -/
import Derived.Test.YtfdaolmjgigcmaaDoorHlist
namespace Go.Proofs.YtfdaolmjgigcmaaDoor
open Go.ChangeShapes Go.WideShapes Go.ChangeAt Go.RowKit
set_option linter.unusedVariables false
set_option linter.unusedSimpArgs false

set_option maxHeartbeats 1600000 in
set_option maxRecDepth 100000 in
theorem lists_walk (a b : ByteArray) (l : Option Addr) (len cap : Nat) (ls : List ByteArray) (w : World) (hI : IsStrs w l len ls) (hlc : len ≤ cap) (hcap : cap ≤ maxLen) (hre : ∀ s ∈ ls, s.size ≤ reachBytes) (hT : STab w) :
    Calls Tryd.prog 4 #[.string a, .string b, .slice l len cap] w fun e w' => e = .returned (.bool true) ∧ Below w.heap.size w w' := by
  have AW := Lib.hid (awake2_any w hT)
  by_cases ha : 300 < a.size
  · have ha' : (300 : Int) < (a.size : Int) := by omega
    go_enter Tryd.func4, Tryd.ntmps4
    go_wp2_with (go_at_call 7; (with_reducible refine AW.out.mono ?_); rintro e w2 ⟨rfl, hb2⟩)
    go_ret
    exact ⟨rfl, hb2⟩
  by_cases hb : 300 < b.size
  · have ha' : decide ((300 : Int) < (a.size : Int)) = false := decide_eq_false (by omega)
    have hb' : (300 : Int) < (b.size : Int) := by omega
    go_enter Tryd.func4, Tryd.ntmps4
    go_wp2_with (go_at_call 7; (with_reducible refine AW.out.mono ?_); rintro e w2 ⟨rfl, hb2⟩)
    go_ret
    exact ⟨rfl, hb2⟩
  by_cases hlen : 30 < len
  · have ha' : decide ((300 : Int) < (a.size : Int)) = false := decide_eq_false (by omega)
    have hb' : decide ((300 : Int) < (b.size : Int)) = false := decide_eq_false (by omega)
    have hl' : (30 : Int) < (len : Int) := by omega
    go_enter Tryd.func4, Tryd.ntmps4
    go_wp2_with (go_at_call 7; (with_reducible refine AW.out.mono ?_); rintro e w2 ⟨rfl, hb2⟩)
    go_ret
    exact ⟨rfl, hb2⟩
  have d1 : decide ((300 : Int) < (a.size : Int)) = false := decide_eq_false (by omega)
  have d2 : decide ((300 : Int) < (b.size : Int)) = false := decide_eq_false (by omega)
  have d3 : decide ((30 : Int) < (len : Int)) = false := decide_eq_false (by omega)
  obtain ⟨hll, hcells⟩ := hI
  have hI' : IsStrs w l len ls := ⟨hll, hcells⟩
  have hsb := sz_bound ls hre
  have hrb : reachBytes = 140737488351232 := rfl
  rw [hrb] at hsb
  have HSB := Lib.hid hsb
  have HC := Lib.hid hcells
  have HI := Lib.hid hI'
  have HT := Lib.hid hT
  clear hsb hcells hI' hT hre hrb
  have hcap' := hcap
  unfold maxLen at hcap'
  go_enter Tryd.func4, Tryd.ntmps4
  go_wp2
  go_loopw [7, 26] (fun n i wr => ∃ j : Nat, j ≤ len ∧ i = .int .i64 j ∧ n = .int .i64 (sz ls j : Nat) ∧ wr = w) (fun _ i _ => len - (intOf i).toNat)
  case atStart => exact ⟨0, by omega, rfl, by simp [sz], rfl⟩
  case round =>
    obtain ⟨j, hj, rfl, rfl, rfl⟩ := hrel
    by_cases hlt : j < len
    · obtain ⟨bl, off, rfl, hbw, hcell⟩ := HC.out j hlt
      have hs1 := sz_succ ls j (by omega)
      have hs2 := HSB.out (j + 1) (by omega)
      obtain ⟨y, hy⟩ : ∃ y, y = ls.getD j ByteArray.empty := ⟨_, rfl⟩
      rw [← hy] at hs1 hcell
      obtain ⟨s0, hs0⟩ : ∃ s0, s0 = sz ls j := ⟨_, rfl⟩
      obtain ⟨s1, hs1'⟩ : ∃ s1, s1 = sz ls (j + 1) := ⟨_, rfl⟩
      rw [← hs0, ← hs1'] at hs1
      rw [← hs1'] at hs2
      have hs3 : s1 ≤ 31 * 140737488351232 := Nat.le_trans hs2 (Nat.mul_le_mul_right _ (by omega))
      have hsum : IntKind.i64.wrap ((s0 : Int) + (y.size : Int)) = (s1 : Int) := by rw [IntKind.wrap_i64]; omega
      have hsum' : (s0 : Int) + (y.size : Int) = (s1 : Int) := by omega
      rw [← hs0]
      have HS1 := Lib.hid hs1'
      have hi1 : (j : Int) < (len : Int) := by omega
      clear hs0 hs1' hy hs2 hs1
      go_wp2
      go_roundw
      case rel => exact ⟨j + 1, by omega, rfl, by rw [← HS1.out], trivial⟩
      case measure => simp [intOf]; omega
    · obtain rfl : j = len := by omega
      obtain ⟨tot, htot⟩ : ∃ t, t = sz ls j := ⟨_, rfl⟩
      rw [← htot]
      by_cases ht : tot ≤ 3000
      · have htt : sz ls ls.length ≤ 1000000 := by rw [hll, ← htot]; omega
        have P1 := Lib.hid (fun (wx : World) (h : STab wx) => pair_any a b wx (by omega) (by omega) h)
        have P2 := Lib.hid (fun (wx : World) => rpair_any a b wx (by omega) (by omega))
        obtain ⟨o1, ho1⟩ : ∃ o : ByteArray, o = ⟨(sumL (pairL a.data.toList b.data.toList)).toArray⟩ := ⟨_, rfl⟩
        rw [← ho1] at P1 P2
        have L1 := Lib.hid (fun (wx : World) (hi : IsStrs wx l j ls) (h : STab wx) => list_any l j cap ls wx hi (by omega) hlc hcap htt h)
        have L2 := Lib.hid (fun (wx : World) (hi : IsStrs wx l j ls) => rlist_any l j cap ls wx hi (by omega) hlc hcap htt)
        obtain ⟨o2, ho2⟩ : ∃ o : ByteArray, o = ⟨(sumL (listP ls ls.length)).toArray⟩ := ⟨_, rfl⟩
        rw [← ho2] at L1 L2
        have S1 := Lib.hid (fun (wx : World) (h : STab wx) => short_any a wx (by omega) h)
        have S2 := Lib.hid (fun (wx : World) => rshort_any a wx (by omega))
        obtain ⟨o3, ho3⟩ : ∃ o : ByteArray, o = (⟨(sumL a.data.toList).toArray⟩ : ByteArray).extract 0 16 := ⟨_, rfl⟩
        rw [← ho3] at S1 S2
        have IS := Lib.hid (fun (wx : World) (hbx : Below wr.heap.size wr wx) => (show IsStrs wx l j ls from ⟨HI.out.1, fun i hi => by
          obtain ⟨b', off, h1, h2, h3⟩ := HI.out.2 i hi
          exact ⟨b', off, h1, Nat.lt_of_lt_of_le h2 hbx.size, by rw [hbx.cell (p := ⟨b', off + i, none⟩) h2]; exact h3⟩⟩))
        have hB : Below wr.heap.size wr wr := Below.refl _ _
        have ht' : (tot : Int) ≤ 3000 := by omega
        clear ho1 ho2 ho3 htt htot AW
        go_wp2_with (first
          | (go_at_call 12; (with_reducible refine (P1.out _ (HT.out.below hB)).mono ?_); rintro e w2 ⟨rfl, hb2⟩; replace hB := hB.trans (hb2.mono hB.size); clear hb2)
          | (go_at_call 13; (with_reducible refine (P2.out _).mono ?_); rintro e w2 ⟨rfl, hb2⟩; replace hB := hB.trans (hb2.mono hB.size); clear hb2)
          | (go_at_call 14; (with_reducible refine (L1.out _ (IS.out _ hB) (HT.out.below hB)).mono ?_); rintro e w2 ⟨rfl, hb2⟩; replace hB := hB.trans (hb2.mono hB.size); clear hb2)
          | (go_at_call 15; (with_reducible refine (L2.out _ (IS.out _ hB)).mono ?_); rintro e w2 ⟨rfl, hb2⟩; replace hB := hB.trans (hb2.mono hB.size); clear hb2)
          | (go_at_call 16; (with_reducible refine (S1.out _ (HT.out.below hB)).mono ?_); rintro e w2 ⟨rfl, hb2⟩; replace hB := hB.trans (hb2.mono hB.size); clear hb2)
          | (go_at_call 17; (with_reducible refine (S2.out _).mono ?_); rintro e w2 ⟨rfl, hb2⟩; replace hB := hB.trans (hb2.mono hB.size); clear hb2)
          | (go_at_call 7; (with_reducible refine (awake2_any _ (HT.out.below hB)).mono ?_); rintro e w2 ⟨rfl, hb2⟩; replace hB := hB.trans (hb2.mono hB.size); clear hb2))
        go_ret
        exact ⟨rfl, hB⟩
      · have ht' : (3000 : Int) < (tot : Int) := by omega
        go_wp2_with (go_at_call 7; (with_reducible refine AW.out.mono ?_); rintro e w2 ⟨rfl, hb2⟩)
        go_ret
        exact ⟨rfl, hb2⟩

end Go.Proofs.YtfdaolmjgigcmaaDoor
