/- Contracts of onetime's functions and the document's up to walk: what each returns, and that no old memory is changed. -/
import Derived.Test.YtgoecmpbobablaaDoorHpair
import Derived.Test.YtgoecmpbobablaaDoorOdat
namespace Go.Proofs.YtgoecmpbobablaaDoor
open Go.ChangeShapes Go.WideShapes Go.ChangeAt Go.RowKit
set_option linter.unusedVariables false
set_option linter.unusedSimpArgs false

theorem twoB_of (a b : Int) {F : List UInt8} (hF : F = [byteI a, byteI b]) : (⟨F.toArray⟩ : ByteArray) = twoB a b := by rw [hF]; rfl
theorem short_b (s : ByteArray) (w : World) (hs : s.size ≤ 1000000) (hT : STab w) : Calls Tryd.prog 31 #[.string s] w fun e w' => e = .returned (.string (shB s)) ∧ Below w.heap.size w w' := short_any s w hs hT
theorem rshort_b (s : ByteArray) (w : World) (hs : s.size ≤ 1000000) : Calls Tryd.prog 24 #[.string s] w fun e w' => e = .returned (.string (shB s)) ∧ Below w.heap.size w w' := rshort_any s w hs
theorem stab_of {w wr : World} {B : Nat} (h : STab w) (hb : Below B w wr) (hB : w.heap.size ≤ B) : STab wr := h.below (hb.mono hB)

set_option maxRecDepth 100000 in
theorem shortWith_any (s : ByteArray) (a b : Int) (w : World) (hs : s.size ≤ 999990) (hT : STab w) :
    Calls Tryd.prog 27 #[.string s, .int .i64 a, .int .i64 b] w fun e w' => e = .returned (.string (stB s a b)) ∧ Below w.heap.size w w' := by
  obtain ⟨F, hF⟩ : ∃ F, F = [byteI a, byteI b] := ⟨_, rfl⟩
  have hrow : Row (w.alloc (.cells #[.int .u8 (a % 256), .int .u8 (b % 256)] 5)) w.heap.size 5 2 (F.map fun b => Value.int .u8 (b.toNat : Int)) := by
    have hv : bytesV [byteI a, byteI b] = [Value.int .u8 (a % 256), .int .u8 (b % 256)] := by simp only [bytesV, List.map_cons, List.map_nil, byteI_val]
    rw [show (F.map fun b => Value.int .u8 (b.toNat : Int)) = bytesV F from rfl, hF, hv]
    exact Row.new w _ _ _ (by simp) (by simp)
  have hcv := conv_row (P := Tryd.prog) _ 36 9 5 w.heap.size 5 2 2 F (by rw [hF]; rfl) hrow Tryd.underlying36 Tryd.underlying5 Tryd.underlying9
  rw [twoB_of a b hF] at hcv
  have ht2 := twoB_size a b
  unfold stB
  obtain ⟨t, ht⟩ : ∃ t, t = twoB a b := ⟨_, rfl⟩
  rw [← ht] at hcv ht2 ⊢
  obtain ⟨p, hp⟩ : ∃ p, s ++ t = p := ⟨_, rfl⟩
  have hps : p.size ≤ 1000000 := by rw [← hp, ByteArray.size_append, ht2]; omega
  rw [hp]
  have b0 := (Below.refl w.heap.size w).alloc (o := .cells #[.int .u8 (a % 256), .int .u8 (b % 256)] 5) (Nat.le_refl _)
  have S1 := Lib.hid (short_b p _ hps (hT.below b0))
  clear hF hrow ht hT
  go_enter Tryd.func27, Tryd.ntmps27
  go_wp2_with (go_at_call 31; (with_reducible refine S1.out.mono ?_); rintro e w1 ⟨rfl, hb1⟩)
  go_ret
  exact ⟨rfl, b0.trans (hb1.mono b0.size)⟩
set_option maxRecDepth 100000 in
theorem rbytes_any (a b : Int) (w : World) : Calls Tryd.prog 28 #[.int .i64 a, .int .i64 b] w fun e w' => e = .returned (.string (twoB a b)) ∧ Below w.heap.size w w' := by
  obtain ⟨F, hF⟩ : ∃ F, F = [byteI a, byteI b] := ⟨_, rfl⟩
  have hrow : Row (w.alloc (.cells #[.int .u8 (a % 256), .int .u8 (b % 256)] 5)) w.heap.size 5 2 (F.map fun b => Value.int .u8 (b.toNat : Int)) := by
    have hv : bytesV [byteI a, byteI b] = [Value.int .u8 (a % 256), .int .u8 (b % 256)] := by simp only [bytesV, List.map_cons, List.map_nil, byteI_val]
    rw [show (F.map fun b => Value.int .u8 (b.toNat : Int)) = bytesV F from rfl, hF, hv]
    exact Row.new w _ _ _ (by simp) (by simp)
  have hcv := conv_row (P := Tryd.prog) _ 36 9 5 w.heap.size 5 2 2 F (by rw [hF]; rfl) hrow Tryd.underlying36 Tryd.underlying5 Tryd.underlying9
  rw [twoB_of a b hF] at hcv
  clear hF hrow
  go_enter Tryd.func28, Tryd.ntmps28
  go_wp2
  go_ret
  exact ⟨rfl, (Below.refl _ _).alloc (Nat.le_refl _) _⟩
set_option maxRecDepth 100000 in
theorem step_b (s : ByteArray) (a b : Int) (w : World) (hs : s.size ≤ 999990) (hT : STab w) :
    Calls Tryd.prog 11 #[.string s, .int .i64 a, .int .i64 b] w fun e w' => e = .returned (.string (stB s a b)) ∧ Below w.heap.size w w' := by
  have S1 := Lib.hid (shortWith_any s a b w hs hT)
  go_enter Tryd.func11, Tryd.ntmps11
  go_wp2_with (go_at_call 27; (with_reducible refine S1.out.mono ?_); rintro e w1 ⟨rfl, hb1⟩)
  go_ret
  exact ⟨rfl, hb1⟩
set_option maxRecDepth 100000 in
theorem rstep_b (s : ByteArray) (a b : Int) (w : World) (hs : s.size ≤ 999990) :
    Calls Tryd.prog 12 #[.string s, .int .i64 a, .int .i64 b] w fun e w' => e = .returned (.string (stB s a b)) ∧ Below w.heap.size w w' := by
  have S1 := Lib.hid (rbytes_any a b w)
  have ht2 := twoB_size a b
  unfold stB
  obtain ⟨t, ht⟩ : ∃ t, t = twoB a b := ⟨_, rfl⟩
  rw [← ht] at S1 ht2 ⊢
  obtain ⟨p, hp⟩ : ∃ p, s ++ t = p := ⟨_, rfl⟩
  have hps : p.size ≤ 1000000 := by rw [← hp, ByteArray.size_append, ht2]; omega
  rw [hp]
  have S2 := Lib.hid (fun wx => rshort_b p wx hps)
  clear ht
  go_enter Tryd.func12, Tryd.ntmps12
  go_wp2_with (first
    | (go_at_call 28; (with_reducible refine S1.out.mono ?_); rintro e w1 ⟨rfl, hb1⟩)
    | (go_at_call 24; (with_reducible refine (S2.out _).mono ?_); rintro e w2 ⟨rfl, hb2⟩))
  go_ret
  exact ⟨rfl, hb1.trans (hb2.mono hb1.size)⟩
set_option maxRecDepth 100000 in
theorem secret_b (s : ByteArray) (b : Int) (w : World) (hs : s.size ≤ 999990) (hT : STab w) :
    Calls Tryd.prog 13 #[.string s, .int .i64 b] w fun e w' => e = .returned (.string (secB s b)) ∧ Below w.heap.size w w' := by
  have S1 := Lib.hid (shortWith_any s 128 b w hs hT)
  unfold secB
  go_enter Tryd.func13, Tryd.ntmps13
  go_wp2_with (go_at_call 27; (with_reducible refine S1.out.mono ?_); rintro e w1 ⟨rfl, hb1⟩)
  go_ret
  exact ⟨rfl, hb1⟩
set_option maxRecDepth 100000 in
theorem rsecret_b (s : ByteArray) (b : Int) (w : World) (hs : s.size ≤ 999990) :
    Calls Tryd.prog 14 #[.string s, .int .i64 b] w fun e w' => e = .returned (.string (secB s b)) ∧ Below w.heap.size w w' := by
  have S1 := Lib.hid (rbytes_any 128 b w)
  have ht2 := twoB_size 128 b
  unfold secB stB
  obtain ⟨t, ht⟩ : ∃ t, t = twoB 128 b := ⟨_, rfl⟩
  rw [← ht] at S1 ht2 ⊢
  obtain ⟨p, hp⟩ : ∃ p, s ++ t = p := ⟨_, rfl⟩
  have hps : p.size ≤ 1000000 := by rw [← hp, ByteArray.size_append, ht2]; omega
  rw [hp]
  have S2 := Lib.hid (fun wx => rshort_b p wx hps)
  clear ht
  go_enter Tryd.func14, Tryd.ntmps14
  go_wp2_with (first
    | (go_at_call 28; (with_reducible refine S1.out.mono ?_); rintro e w1 ⟨rfl, hb1⟩)
    | (go_at_call 24; (with_reducible refine (S2.out _).mono ?_); rintro e w2 ⟨rfl, hb2⟩))
  go_ret
  exact ⟨rfl, hb1.trans (hb2.mono hb1.size)⟩
set_option maxHeartbeats 800000 in
set_option maxRecDepth 100000 in
theorem walk_b (v : ByteArray) (c f t : Int) (n : Nat) (w : World) (hn : t - f = (n : Int)) (hf : 0 ≤ f) (ht : t ≤ 1000) (hs : v.size = 16) (hT : STab w) :
    Calls Tryd.prog 30 #[.string v, .int .i64 c, .int .i64 f, .int .i64 t] w fun e w' => e = .returned (.string (wkB v c f n)) ∧ Below w.heap.size w w' := by
  have HZ : Hid (∀ j, (wkB v c f j).size = 16) := Lib.hid fun j => wkB_size v c f j hs
  have SP := Lib.hid (fun (wx : World) (q : ByteArray) (p : Int) (hq : q.size ≤ 999990) (h : STab wx) => step_b q c p wx hq h)
  have HT := Lib.hid hT
  have HS : Hid (∀ j : Nat, stB (wkB v c f j) c (f + j) = wkB v c f (j + 1)) := Lib.hid fun j => rfl
  clear hT
  go_enter Tryd.func30, Tryd.ntmps30
  go_wp2
  go_loopw [0, 13] (fun x i wr => ∃ j : Nat, ∃ q : ByteArray, j ≤ n ∧ i = .int .i64 j ∧ x = .string q ∧ Hid (q = wkB v c f j) ∧ Below w.heap.size w wr) (fun _ i _ => n - (intOf i).toNat)
  case atStart => exact ⟨0, v, Nat.zero_le _, rfl, rfl, Lib.hid rfl, Below.refl _ _⟩
  case round =>
    obtain ⟨j, q, hj, rfl, rfl, hq, hb⟩ := hrel
    by_cases hlt : j < n
    · have hqs : q.size ≤ 999990 := by rw [hq.out, HZ.out]; omega
      have S1 := Lib.hid (SP.out wr q (f + j) hqs (HT.out.below hb))
      rw [show stB q c (f + j) = wkB v c f (j + 1) by rw [hq.out]; exact HS.out j] at S1
      obtain ⟨q2, hq2⟩ : ∃ q2, q2 = wkB v c f (j + 1) := ⟨_, rfl⟩
      rw [← hq2] at S1
      have HQ2 := Lib.hid hq2
      clear hqs hq2
      go_wp2_with (go_at_call 11; (with_reducible refine S1.out.mono ?_); rintro e w1 ⟨rfl, hb1⟩)
      go_roundw
      case rel => exact ⟨j + 1, q2, by omega, by go_num, rfl, HQ2, hb.trans (hb1.mono hb.size)⟩
      case measure => simp [intOf]; omega
    · obtain rfl : j = n := by omega
      go_wp2
      go_ret
      exact ⟨by rw [hq.out]; rfl, hb⟩
set_option maxHeartbeats 800000 in
set_option maxRecDepth 100000 in
theorem rwalk_b (v : ByteArray) (c f t : Int) (n : Nat) (w : World) (hn : t - f = (n : Int)) (hf : 0 ≤ f) (ht : t ≤ 1000) (hs : v.size = 16) :
    Calls Tryd.prog 33 #[.string v, .int .i64 c, .int .i64 f, .int .i64 t] w fun e w' => e = .returned (.string (wkB v c f n)) ∧ Below w.heap.size w w' := by
  have HZ : Hid (∀ j, (wkB v c f j).size = 16) := Lib.hid fun j => wkB_size v c f j hs
  have SP := Lib.hid (fun (wx : World) (q : ByteArray) (p : Int) (hq : q.size ≤ 999990) => rstep_b q c p wx hq)
  have HS : Hid (∀ j : Nat, stB (wkB v c f j) c (f + j) = wkB v c f (j + 1)) := Lib.hid fun j => rfl
  go_enter Tryd.func33, Tryd.ntmps33
  go_wp2
  have HN := Lib.hid hn
  clear hn
  go_loopw [0, 9] (fun x i wr => ∃ j : Nat, ∃ q : ByteArray, ∃ z : Int, j ≤ n ∧ i = .int .i64 z ∧ Hid (z = f + j) ∧ x = .string q ∧ Hid (q = wkB v c f j) ∧ Below w.heap.size w wr) (fun _ i _ => (t - intOf i).toNat)
  case atStart => exact ⟨0, v, f, Nat.zero_le _, rfl, Lib.hid (by simp), rfl, Lib.hid rfl, Below.refl _ _⟩
  case round =>
    obtain ⟨j, q, z, hj, rfl, hz, rfl, hq, hb⟩ := hrel
    have hzb : f ≤ z := by rw [hz.out]; omega
    by_cases hlt : j < n
    · have hqs : q.size ≤ 999990 := by rw [hq.out, HZ.out]; omega
      have hzt : z < t := by rw [hz.out]; have := HN.out; omega
      have S1 := Lib.hid (SP.out wr q z hqs)
      rw [show stB q c z = wkB v c f (j + 1) by rw [hq.out, hz.out]; exact HS.out j] at S1
      obtain ⟨q2, hq2⟩ : ∃ q2, q2 = wkB v c f (j + 1) := ⟨_, rfl⟩
      rw [← hq2] at S1
      have HQ2 := Lib.hid hq2
      clear hqs hq2
      go_wp2_with (go_at_call 12; (with_reducible refine S1.out.mono ?_); rintro e w1 ⟨rfl, hb1⟩)
      go_roundw
      case rel => exact ⟨j + 1, q2, z + 1, by omega, by go_num, Lib.hid (by rw [hz.out]; omega), rfl, HQ2, hb.trans (hb1.mono hb.size)⟩
      case measure => simp [intOf]; omega
    · obtain rfl : j = n := by omega
      have hzt : ¬ z < t := by rw [hz.out]; have := HN.out; omega
      go_wp2
      go_ret
      exact ⟨by rw [hq.out]; rfl, hb⟩
end Go.Proofs.YtgoecmpbobablaaDoor
