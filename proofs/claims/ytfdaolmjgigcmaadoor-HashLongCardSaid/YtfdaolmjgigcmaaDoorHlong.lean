/- The walk of HashLong: the sums of both sides agree; what becomes of about the greatest length. -/
import Derived.Test.YtfdaolmjgigcmaaDoorHlaw
namespace Go.Proofs.YtfdaolmjgigcmaaDoor
open Go.ChangeShapes Go.WideShapes Go.ChangeAt Go.RowKit
set_option linter.unusedVariables false
set_option linter.unusedSimpArgs false

set_option maxHeartbeats 800000 in
set_option maxRecDepth 100000 in
theorem long_walk (n more : Int) (w : World) (n0 : 0 ≤ n) (n1 : n ≤ 65535) (m0 : 0 ≤ more) (m1 : more ≤ 255) (hT : STab w) :
    Calls Tryd.prog 6 #[.int .u16 n, .int .u8 more] w fun e w' => e = .returned (.bool true) ∧ Below w.heap.size w w' := by
  obtain ⟨i0, hi, hz0, hz1, hz2⟩ := info_parts Tryd.infob
  obtain ⟨k, hk⟩ : ∃ k : Nat, n % 3000 = (k : Int) := ⟨(n % 3000).toNat, by omega⟩
  have hk3 : k < 3000 := by omega
  obtain ⟨z1, hz1'⟩ : ∃ z : ByteArray, z = ⟨(List.replicate k (0 : UInt8)).toArray⟩ := ⟨_, rfl⟩
  have hz1s : z1.size = k := by rw [hz1']; exact zeros_size k
  have C1 : Hid (∀ (w1 : World) (B : Nat) (v : Value), w1.ownsRow B 5 1 v k (madeCells (Value.int .u8 0).cells (k * 1)).toList → (convert 24 9 v).run Tryd.prog w1 = .ok (.string z1) w1) := Lib.hid (fun w1 B v h => by rw [hz1']; exact zeros_string h)
  obtain ⟨q, hq⟩ : ∃ q : ByteArray, z1 ++ { data := #[101, 110, 100] } = q := ⟨_, rfl⟩
  have hqs : q.size ≤ 1099511627776 := by rw [← hq, ByteArray.size_append, hz1s]; show k + 3 ≤ _; omega
  have S1 := Lib.hid (fun (wx : World) (h : STab wx) => sum_any q wx hqs h)
  have S2 := Lib.hid (fun (wx : World) => rsum_any q wx hqs)
  obtain ⟨sm, hsm⟩ : ∃ sm : ByteArray, sm = ⟨(sumL q.data.toList).toArray⟩ := ⟨_, rfl⟩
  rw [← hsm] at S1 S2
  clear hsm hz1' hqs
  obtain ⟨b, hb⟩ : ∃ b : Nat, more % 2 = (b : Int) := ⟨(more % 2).toNat, by omega⟩
  have hb2 : b < 2 := by omega
  have hb01 : b = 0 ∨ b = 1 := by omega
  rcases hb01 with rfl | rfl
  · obtain ⟨N, hN⟩ : ∃ N : Nat, N = 1048576 := ⟨_, rfl⟩
    obtain ⟨z2, hz2'⟩ : ∃ z : ByteArray, z = ⟨(List.replicate N (0 : UInt8)).toArray⟩ := ⟨_, rfl⟩
    have hz2s : z2.size = 1048576 := by rw [hz2', zeros_size, hN]
    have C2 : Hid (∀ (w1 : World) (B : Nat) (v : Value), w1.ownsRow B 5 1 v N (madeCells (Value.int .u8 0).cells (N * 1)).toList → (convert 24 9 v).run Tryd.prog w1 = .ok (.string z2) w1) := Lib.hid (fun w1 B v h => by rw [hz2']; exact zeros_string h)
    have PV := Lib.hid (fun (wx : World) => Pad_any z2 wx (by omega))
    have hpv : padV z2 = .tuple #[.string ⟨(padL z2.data.toList z2.size).toArray⟩, .int .i64 0] := if_pos (by omega)
    rw [hpv] at PV
    obtain ⟨p, hp⟩ : ∃ p : ByteArray, p = ⟨(padL z2.data.toList z2.size).toArray⟩ := ⟨_, rfl⟩
    have hps : p.size = 1048640 := by
      have : p.size = (padL z2.data.toList z2.size).length := by rw [hp]; show (padL z2.data.toList z2.size).toArray.size = _; simp
      rw [this, padL_length]
      have : z2.data.toList.length = z2.size := by simp
      rw [this, hz2s]
    rw [← hp] at PV
    rw [show ((0 : Nat) : Int) = 0 from rfl] at hb
    clear hz2' hpv hp hz2s
    have hB : Below w.heap.size w w := Below.refl _ _
    have hN' : (1048576 : Int) = (N : Int) := by omega
    have HN := Lib.hid hN
    clear hN
    have HT := Lib.hid hT
    clear hT
    go_enter Tryd.func6, Tryd.ntmps6
    go_wp2_with (first
      | (at_make; refine wpList_make_full _ rfl _ _ 24 rfl _ 5 i0 (.int .u8 0) 1 Tryd.underlying24 hi hz0 hz1 .i64 .i64 _ _ k rfl rfl rfl rfl (by rw [hz2]; omega) (by unfold maxLen; omega) (Nat.le_refl _) ?_; intro w1 hown hgrow; replace hB := hB.grown hgrow hB.size (fun _ e => by cases e); have hcv1 := C1.out _ _ _ hown; clear hown hgrow)
      | (at_make; refine wpList_make_full _ rfl _ _ 24 rfl _ 5 i0 (.int .u8 0) 1 Tryd.underlying24 hi hz0 hz1 .i64 .i64 _ _ N rfl rfl rfl rfl (by rw [hz2]; have := HN.out; omega) (by unfold maxLen; have := HN.out; omega) (Nat.le_refl _) ?_; intro w1 hown hgrow; replace hB := hB.grown hgrow hB.size (fun _ e => by cases e); have hcv2 := C2.out _ _ _ hown; clear hown hgrow)
      | (go_at_call 8; (with_reducible refine (PV.out _).mono ?_); rintro e w2 ⟨rfl, hb2⟩; replace hB := hB.trans (hb2.mono hB.size); clear hb2)
      | (go_at_call 10; (with_reducible refine (S1.out _ (HT.out.below hB)).mono ?_); rintro e w2 ⟨rfl, hb2⟩; replace hB := hB.trans (hb2.mono hB.size); clear hb2)
      | (go_at_call 11; (with_reducible refine (S2.out _).mono ?_); rintro e w2 ⟨rfl, hb2⟩; replace hB := hB.trans (hb2.mono hB.size); clear hb2)
      | (go_at_call 7; (with_reducible refine (awake2_any _ (HT.out.below hB)).mono ?_); rintro e w2 ⟨rfl, hb2⟩; replace hB := hB.trans (hb2.mono hB.size); clear hb2))
    go_ret
    exact ⟨rfl, hB⟩
  · obtain ⟨N, hN⟩ : ∃ N : Nat, N = 1048577 := ⟨_, rfl⟩
    obtain ⟨z2, hz2'⟩ : ∃ z : ByteArray, z = ⟨(List.replicate N (0 : UInt8)).toArray⟩ := ⟨_, rfl⟩
    have hz2s : z2.size = 1048577 := by rw [hz2', zeros_size, hN]
    have C2 : Hid (∀ (w1 : World) (B : Nat) (v : Value), w1.ownsRow B 5 1 v N (madeCells (Value.int .u8 0).cells (N * 1)).toList → (convert 24 9 v).run Tryd.prog w1 = .ok (.string z2) w1) := Lib.hid (fun w1 B v h => by rw [hz2']; exact zeros_string h)
    have PV := Lib.hid (fun (wx : World) => Pad_any z2 wx (by omega))
    have hpv : padV z2 = .tuple #[.string ⟨#[]⟩, .int .i64 3] := if_neg (by omega)
    rw [hpv] at PV
    rw [show ((1 : Nat) : Int) = 1 from rfl] at hb
    clear hz2' hpv hz2s
    have hB : Below w.heap.size w w := Below.refl _ _
    have hN' : (1048577 : Int) = (N : Int) := by omega
    have HN := Lib.hid hN
    clear hN
    have HT := Lib.hid hT
    clear hT
    go_enter Tryd.func6, Tryd.ntmps6
    go_wp2_with (first
      | (at_make; refine wpList_make_full _ rfl _ _ 24 rfl _ 5 i0 (.int .u8 0) 1 Tryd.underlying24 hi hz0 hz1 .i64 .i64 _ _ k rfl rfl rfl rfl (by rw [hz2]; omega) (by unfold maxLen; omega) (Nat.le_refl _) ?_; intro w1 hown hgrow; replace hB := hB.grown hgrow hB.size (fun _ e => by cases e); have hcv1 := C1.out _ _ _ hown; clear hown hgrow)
      | (at_make; refine wpList_make_full _ rfl _ _ 24 rfl _ 5 i0 (.int .u8 0) 1 Tryd.underlying24 hi hz0 hz1 .i64 .i64 _ _ N rfl rfl rfl rfl (by rw [hz2]; have := HN.out; omega) (by unfold maxLen; have := HN.out; omega) (Nat.le_refl _) ?_; intro w1 hown hgrow; replace hB := hB.grown hgrow hB.size (fun _ e => by cases e); have hcv2 := C2.out _ _ _ hown; clear hown hgrow)
      | (go_at_call 8; (with_reducible refine (PV.out _).mono ?_); rintro e w2 ⟨rfl, hb2⟩; replace hB := hB.trans (hb2.mono hB.size); clear hb2)
      | (go_at_call 10; (with_reducible refine (S1.out _ (HT.out.below hB)).mono ?_); rintro e w2 ⟨rfl, hb2⟩; replace hB := hB.trans (hb2.mono hB.size); clear hb2)
      | (go_at_call 11; (with_reducible refine (S2.out _).mono ?_); rintro e w2 ⟨rfl, hb2⟩; replace hB := hB.trans (hb2.mono hB.size); clear hb2)
      | (go_at_call 7; (with_reducible refine (awake2_any _ (HT.out.below hB)).mono ?_); rintro e w2 ⟨rfl, hb2⟩; replace hB := hB.trans (hb2.mono hB.size); clear hb2))
    go_ret
    exact ⟨rfl, hB⟩

end Go.Proofs.YtfdaolmjgigcmaaDoor
