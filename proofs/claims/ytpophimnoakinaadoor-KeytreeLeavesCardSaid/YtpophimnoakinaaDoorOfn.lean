/- Pad of both sides, the sanity check of the statements of hash, strings of zeros. -/
import Derived.Test.YtpophimnoakinaaDoorHrefd
import Derived.Test.YtpophimnoakinaaDoorOdat
namespace Go.Proofs.YtpophimnoakinaaDoor
open Go.ChangeShapes Go.WideShapes Go.ChangeAt Go.RowKit
set_option linter.unusedVariables false
set_option linter.unusedSimpArgs false

/-- What Pad returns. -/
def padV (s : ByteArray) : Value := if s.size ≤ 1048576 then .tuple #[.string ⟨(padL s.data.toList s.size).toArray⟩, .int .i64 0] else .tuple #[.string ⟨#[]⟩, .int .i64 3]


/-- 'string(make([]byte, n))'. -/
theorem zeros_string {w1 : World} {B N : Nat} {v : Value} (h : w1.ownsRow B 5 1 v N (madeCells (Value.int .u8 0).cells (N * 1)).toList) : (convert 35 9 v).run Tryd.prog w1 = .ok (.string ⟨(List.replicate N (0 : UInt8)).toArray⟩) w1 := by
  rw [show (Value.int .u8 0).cells = #[.int .u8 0] from rfl, toList_madeCells_one, Nat.mul_one] at h
  exact conv_owns (P := Tryd.prog) w1 35 9 5 B N v (List.replicate N 0) (by simpa using h) Tryd.underlying35 Tryd.underlying5 Tryd.underlying9
theorem zeros_size (N : Nat) : (⟨(List.replicate N (0 : UInt8)).toArray⟩ : ByteArray).size = N := by show (List.replicate N (0 : UInt8)).toArray.size = N; simp

end Go.Proofs.YtpophimnoakinaaDoor
/- Contracts of Pair and Short of both sides, and of their helpers. -/
namespace Go.Proofs.YtpophimnoakinaaDoor
open Go.ChangeShapes Go.WideShapes Go.ChangeAt Go.RowKit
set_option linter.unusedVariables false
set_option linter.unusedSimpArgs false

def pairL (a b : List UInt8) : List UInt8 := [1] ++ (be4 a.length ++ (a ++ (be4 b.length ++ b)))
theorem pairL_length (a b : List UInt8) : (pairL a b).length = 9 + a.length + b.length := by
  simp [pairL, be4_length]; omega
theorem be4_vals (k : Nat) : bytesV (be4 k) = [Value.int .u8 ((k : Int) / 16777216 % 256), .int .u8 ((k : Int) / 65536 % 256), .int .u8 ((k : Int) / 256 % 256), .int .u8 ((k : Int) % 256)] := by
  show [Value.int .u8 ((UInt8.ofNat (k / 16777216)).toNat : Int), .int .u8 ((UInt8.ofNat (k / 65536)).toNat : Int), .int .u8 ((UInt8.ofNat (k / 256)).toNat : Int), .int .u8 ((UInt8.ofNat (k / 1)).toNat : Int)] = _
  rw [byte_val, byte_val, byte_val, byte_val]
  simp
theorem bytesV_str (s : ByteArray) : Lib.strCells s = bytesV s.data.toList := rfl
/-- What is appended is owned, somewhere. -/
def Out4 (B : Nat) (n : Nat) (xs : List Value) (w0 : World) (e : Ending) (w' : World) : Prop := ∃ v, e = .returned v ∧ Own w' B 5 v n xs ∧ Below B w0 w'

set_option maxRecDepth 100000 in
theorem short_any (s : ByteArray) (w : World) (hs : s.size ≤ 1000000) (hT : STab w) :
    Calls Tryd.prog 52 #[.string s] w fun e w' => e = .returned (.string ((⟨(sumL s.data.toList).toArray⟩ : ByteArray).extract 0 16)) ∧ Below w.heap.size w w' := by
  have S1 := Lib.hid (sum_any s w (by omega) hT)
  obtain ⟨sm, hsm⟩ : ∃ sm : ByteArray, sm = ⟨(sumL s.data.toList).toArray⟩ := ⟨_, rfl⟩
  have hss : sm.size = 32 := by
    have : sm.size = (sumL s.data.toList).length := by rw [hsm]; show (sumL s.data.toList).toArray.size = _; simp
    rw [this, sumL_length]
  rw [← hsm] at S1 ⊢
  clear hsm
  have h16 : (16 : Int) ≤ (sm.size : Int) := by omega
  go_enter Tryd.func52, Tryd.ntmps52
  go_wp2_with (go_at_call 55; (with_reducible refine S1.out.mono ?_); rintro e w1 ⟨rfl, hb1⟩)
  go_ret
  exact ⟨rfl, hb1⟩
set_option maxRecDepth 100000 in
theorem rshort_any (s : ByteArray) (w : World) (hs : s.size ≤ 1000000) :
    Calls Tryd.prog 23 #[.string s] w fun e w' => e = .returned (.string ((⟨(sumL s.data.toList).toArray⟩ : ByteArray).extract 0 16)) ∧ Below w.heap.size w w' := by
  have S1 := Lib.hid (rsum_any s w (by omega))
  obtain ⟨sm, hsm⟩ : ∃ sm : ByteArray, sm = ⟨(sumL s.data.toList).toArray⟩ := ⟨_, rfl⟩
  have hss : sm.size = 32 := by
    have : sm.size = (sumL s.data.toList).length := by rw [hsm]; show (sumL s.data.toList).toArray.size = _; simp
    rw [this, sumL_length]
  rw [← hsm] at S1 ⊢
  clear hsm
  have h16 : (16 : Int) ≤ (sm.size : Int) := by omega
  go_enter Tryd.func23, Tryd.ntmps23
  go_wp2_with (go_at_call 24; (with_reducible refine S1.out.mono ?_); rintro e w1 ⟨rfl, hb1⟩)
  go_ret
  exact ⟨rfl, hb1⟩

end Go.Proofs.YtpophimnoakinaaDoor
/- Contracts of onetime's functions and the document's up to walk: what each returns, and that no old memory is changed. -/
namespace Go.Proofs.YtpophimnoakinaaDoor
open Go.ChangeShapes Go.WideShapes Go.ChangeAt Go.RowKit
set_option linter.unusedVariables false
set_option linter.unusedSimpArgs false

theorem twoB_of (a b : Int) {F : List UInt8} (hF : F = [byteI a, byteI b]) : (⟨F.toArray⟩ : ByteArray) = twoB a b := by rw [hF]; rfl
theorem short_b (s : ByteArray) (w : World) (hs : s.size ≤ 1000000) (hT : STab w) : Calls Tryd.prog 52 #[.string s] w fun e w' => e = .returned (.string (shB s)) ∧ Below w.heap.size w w' := short_any s w hs hT
theorem rshort_b (s : ByteArray) (w : World) (hs : s.size ≤ 1000000) : Calls Tryd.prog 23 #[.string s] w fun e w' => e = .returned (.string (shB s)) ∧ Below w.heap.size w w' := rshort_any s w hs
theorem stab_of {w wr : World} {B : Nat} (h : STab w) (hb : Below B w wr) (hB : w.heap.size ≤ B) : STab wr := h.below (hb.mono hB)

set_option maxRecDepth 100000 in
theorem shortWith_any (s : ByteArray) (a b : Int) (w : World) (hs : s.size ≤ 999990) (hT : STab w) :
    Calls Tryd.prog 69 #[.string s, .int .i64 a, .int .i64 b] w fun e w' => e = .returned (.string (stB s a b)) ∧ Below w.heap.size w w' := by
  obtain ⟨F, hF⟩ : ∃ F, F = [byteI a, byteI b] := ⟨_, rfl⟩
  have hrow : Row (w.alloc (.cells #[.int .u8 (a % 256), .int .u8 (b % 256)] 5)) w.heap.size 5 2 (F.map fun b => Value.int .u8 (b.toNat : Int)) := by
    have hv : bytesV [byteI a, byteI b] = [Value.int .u8 (a % 256), .int .u8 (b % 256)] := by simp only [bytesV, List.map_cons, List.map_nil, byteI_val]
    rw [show (F.map fun b => Value.int .u8 (b.toNat : Int)) = bytesV F from rfl, hF, hv]
    exact Row.new w _ _ _ (by simp) (by simp)
  have hcv := conv_row (P := Tryd.prog) _ 35 9 5 w.heap.size 5 2 2 F (by rw [hF]; rfl) hrow Tryd.underlying35 Tryd.underlying5 Tryd.underlying9
  rw [twoB_of a b hF] at hcv
  have ht2 := twoB_size a b
  unfold stB
  obtain ⟨t, ht⟩ : ∃ t, t = twoB a b := ⟨_, rfl⟩
  rw [← ht] at hcv ht2 ⊢
  obtain ⟨p, hp⟩ : ∃ p, s ++ t = p := ⟨_, rfl⟩
  have hps : p.size ≤ 1000000 := by rw [← hp, ByteArray.size_append, ht2]; omega
  rw [hp]
  have b0 := (Below.refl w.heap.size w).alloc (o := .cells #[.int .u8 (a % 256), .int .u8 (b % 256)] 5) (Nat.le_refl _)
  have S1 := Lib.hid (short_b p _ hps (hT.below b0))
  clear hF hrow ht hT
  go_enter Tryd.func69, Tryd.ntmps69
  go_wp2_with (go_at_call 52; (with_reducible refine S1.out.mono ?_); rintro e w1 ⟨rfl, hb1⟩)
  go_ret
  exact ⟨rfl, b0.trans (hb1.mono b0.size)⟩
set_option maxRecDepth 100000 in
theorem rbytes_any (a b : Int) (w : World) : Calls Tryd.prog 74 #[.int .i64 a, .int .i64 b] w fun e w' => e = .returned (.string (twoB a b)) ∧ Below w.heap.size w w' := by
  obtain ⟨F, hF⟩ : ∃ F, F = [byteI a, byteI b] := ⟨_, rfl⟩
  have hrow : Row (w.alloc (.cells #[.int .u8 (a % 256), .int .u8 (b % 256)] 5)) w.heap.size 5 2 (F.map fun b => Value.int .u8 (b.toNat : Int)) := by
    have hv : bytesV [byteI a, byteI b] = [Value.int .u8 (a % 256), .int .u8 (b % 256)] := by simp only [bytesV, List.map_cons, List.map_nil, byteI_val]
    rw [show (F.map fun b => Value.int .u8 (b.toNat : Int)) = bytesV F from rfl, hF, hv]
    exact Row.new w _ _ _ (by simp) (by simp)
  have hcv := conv_row (P := Tryd.prog) _ 35 9 5 w.heap.size 5 2 2 F (by rw [hF]; rfl) hrow Tryd.underlying35 Tryd.underlying5 Tryd.underlying9
  rw [twoB_of a b hF] at hcv
  clear hF hrow
  go_enter Tryd.func74, Tryd.ntmps74
  go_wp2
  go_ret
  exact ⟨rfl, (Below.refl _ _).alloc (Nat.le_refl _) _⟩
set_option maxRecDepth 100000 in
theorem step_b (s : ByteArray) (a b : Int) (w : World) (hs : s.size ≤ 999990) (hT : STab w) :
    Calls Tryd.prog 68 #[.string s, .int .i64 a, .int .i64 b] w fun e w' => e = .returned (.string (stB s a b)) ∧ Below w.heap.size w w' := by
  have S1 := Lib.hid (shortWith_any s a b w hs hT)
  go_enter Tryd.func68, Tryd.ntmps68
  go_wp2_with (go_at_call 69; (with_reducible refine S1.out.mono ?_); rintro e w1 ⟨rfl, hb1⟩)
  go_ret
  exact ⟨rfl, hb1⟩
set_option maxRecDepth 100000 in
theorem rstep_b (s : ByteArray) (a b : Int) (w : World) (hs : s.size ≤ 999990) :
    Calls Tryd.prog 73 #[.string s, .int .i64 a, .int .i64 b] w fun e w' => e = .returned (.string (stB s a b)) ∧ Below w.heap.size w w' := by
  have S1 := Lib.hid (rbytes_any a b w)
  have ht2 := twoB_size a b
  unfold stB
  obtain ⟨t, ht⟩ : ∃ t, t = twoB a b := ⟨_, rfl⟩
  rw [← ht] at S1 ht2 ⊢
  obtain ⟨p, hp⟩ : ∃ p, s ++ t = p := ⟨_, rfl⟩
  have hps : p.size ≤ 1000000 := by rw [← hp, ByteArray.size_append, ht2]; omega
  rw [hp]
  have S2 := Lib.hid (fun wx => rshort_b p wx hps)
  clear ht
  go_enter Tryd.func73, Tryd.ntmps73
  go_wp2_with (first
    | (go_at_call 74; (with_reducible refine S1.out.mono ?_); rintro e w1 ⟨rfl, hb1⟩)
    | (go_at_call 23; (with_reducible refine (S2.out _).mono ?_); rintro e w2 ⟨rfl, hb2⟩))
  go_ret
  exact ⟨rfl, hb1.trans (hb2.mono hb1.size)⟩
set_option maxRecDepth 100000 in
theorem secret_b (s : ByteArray) (b : Int) (w : World) (hs : s.size ≤ 999990) (hT : STab w) :
    Calls Tryd.prog 54 #[.string s, .int .i64 b] w fun e w' => e = .returned (.string (secB s b)) ∧ Below w.heap.size w w' := by
  have S1 := Lib.hid (shortWith_any s 128 b w hs hT)
  unfold secB
  go_enter Tryd.func54, Tryd.ntmps54
  go_wp2_with (go_at_call 69; (with_reducible refine S1.out.mono ?_); rintro e w1 ⟨rfl, hb1⟩)
  go_ret
  exact ⟨rfl, hb1⟩
set_option maxRecDepth 100000 in
theorem rsecret_b (s : ByteArray) (b : Int) (w : World) (hs : s.size ≤ 999990) :
    Calls Tryd.prog 57 #[.string s, .int .i64 b] w fun e w' => e = .returned (.string (secB s b)) ∧ Below w.heap.size w w' := by
  have S1 := Lib.hid (rbytes_any 128 b w)
  have ht2 := twoB_size 128 b
  unfold secB stB
  obtain ⟨t, ht⟩ : ∃ t, t = twoB 128 b := ⟨_, rfl⟩
  rw [← ht] at S1 ht2 ⊢
  obtain ⟨p, hp⟩ : ∃ p, s ++ t = p := ⟨_, rfl⟩
  have hps : p.size ≤ 1000000 := by rw [← hp, ByteArray.size_append, ht2]; omega
  rw [hp]
  have S2 := Lib.hid (fun wx => rshort_b p wx hps)
  clear ht
  go_enter Tryd.func57, Tryd.ntmps57
  go_wp2_with (first
    | (go_at_call 74; (with_reducible refine S1.out.mono ?_); rintro e w1 ⟨rfl, hb1⟩)
    | (go_at_call 23; (with_reducible refine (S2.out _).mono ?_); rintro e w2 ⟨rfl, hb2⟩))
  go_ret
  exact ⟨rfl, hb1.trans (hb2.mono hb1.size)⟩
set_option maxHeartbeats 800000 in
set_option maxRecDepth 100000 in
theorem walk_b (v : ByteArray) (c f t : Int) (n : Nat) (w : World) (hn : t - f = (n : Int)) (hf : 0 ≤ f) (ht : t ≤ 1000) (hs : v.size = 16) (hT : STab w) :
    Calls Tryd.prog 53 #[.string v, .int .i64 c, .int .i64 f, .int .i64 t] w fun e w' => e = .returned (.string (wkB v c f n)) ∧ Below w.heap.size w w' := by
  have HZ : Hid (∀ j, (wkB v c f j).size = 16) := Lib.hid fun j => wkB_size v c f j hs
  have SP := Lib.hid (fun (wx : World) (q : ByteArray) (p : Int) (hq : q.size ≤ 999990) (h : STab wx) => step_b q c p wx hq h)
  have HT := Lib.hid hT
  have HS : Hid (∀ j : Nat, stB (wkB v c f j) c (f + j) = wkB v c f (j + 1)) := Lib.hid fun j => rfl
  clear hT
  go_enter Tryd.func53, Tryd.ntmps53
  go_wp2
  go_loopw [0, 13] (fun x i wr => ∃ j : Nat, ∃ q : ByteArray, j ≤ n ∧ i = .int .i64 j ∧ x = .string q ∧ Hid (q = wkB v c f j) ∧ Below w.heap.size w wr) (fun _ i _ => n - (intOf i).toNat)
  case atStart => exact ⟨0, v, Nat.zero_le _, rfl, rfl, Lib.hid rfl, Below.refl _ _⟩
  case round =>
    obtain ⟨j, q, hj, rfl, rfl, hq, hb⟩ := hrel
    by_cases hlt : j < n
    · have hqs : q.size ≤ 999990 := by rw [hq.out, HZ.out]; omega
      have S1 := Lib.hid (SP.out wr q (f + j) hqs (HT.out.below hb))
      rw [show stB q c (f + j) = wkB v c f (j + 1) by rw [hq.out]; exact HS.out j] at S1
      obtain ⟨q2, hq2⟩ : ∃ q2, q2 = wkB v c f (j + 1) := ⟨_, rfl⟩
      rw [← hq2] at S1
      have HQ2 := Lib.hid hq2
      clear hqs hq2
      go_wp2_with (go_at_call 68; (with_reducible refine S1.out.mono ?_); rintro e w1 ⟨rfl, hb1⟩)
      go_roundw
      case rel => exact ⟨j + 1, q2, by omega, by go_num, rfl, HQ2, hb.trans (hb1.mono hb.size)⟩
      case measure => simp [intOf]; omega
    · obtain rfl : j = n := by omega
      go_wp2
      go_ret
      exact ⟨by rw [hq.out]; rfl, hb⟩
set_option maxHeartbeats 800000 in
set_option maxRecDepth 100000 in
theorem rwalk_b (v : ByteArray) (c f t : Int) (n : Nat) (w : World) (hn : t - f = (n : Int)) (hf : 0 ≤ f) (ht : t ≤ 1000) (hs : v.size = 16) :
    Calls Tryd.prog 56 #[.string v, .int .i64 c, .int .i64 f, .int .i64 t] w fun e w' => e = .returned (.string (wkB v c f n)) ∧ Below w.heap.size w w' := by
  have HZ : Hid (∀ j, (wkB v c f j).size = 16) := Lib.hid fun j => wkB_size v c f j hs
  have SP := Lib.hid (fun (wx : World) (q : ByteArray) (p : Int) (hq : q.size ≤ 999990) => rstep_b q c p wx hq)
  have HS : Hid (∀ j : Nat, stB (wkB v c f j) c (f + j) = wkB v c f (j + 1)) := Lib.hid fun j => rfl
  go_enter Tryd.func56, Tryd.ntmps56
  go_wp2
  have HN := Lib.hid hn
  clear hn
  go_loopw [0, 9] (fun x i wr => ∃ j : Nat, ∃ q : ByteArray, ∃ z : Int, j ≤ n ∧ i = .int .i64 z ∧ Hid (z = f + j) ∧ x = .string q ∧ Hid (q = wkB v c f j) ∧ Below w.heap.size w wr) (fun _ i _ => (t - intOf i).toNat)
  case atStart => exact ⟨0, v, f, Nat.zero_le _, rfl, Lib.hid (by simp), rfl, Lib.hid rfl, Below.refl _ _⟩
  case round =>
    obtain ⟨j, q, z, hj, rfl, hz, rfl, hq, hb⟩ := hrel
    have hzb : f ≤ z := by rw [hz.out]; omega
    by_cases hlt : j < n
    · have hqs : q.size ≤ 999990 := by rw [hq.out, HZ.out]; omega
      have hzt : z < t := by rw [hz.out]; have := HN.out; omega
      have S1 := Lib.hid (SP.out wr q z hqs)
      rw [show stB q c z = wkB v c f (j + 1) by rw [hq.out, hz.out]; exact HS.out j] at S1
      obtain ⟨q2, hq2⟩ : ∃ q2, q2 = wkB v c f (j + 1) := ⟨_, rfl⟩
      rw [← hq2] at S1
      have HQ2 := Lib.hid hq2
      clear hqs hq2
      go_wp2_with (go_at_call 73; (with_reducible refine S1.out.mono ?_); rintro e w1 ⟨rfl, hb1⟩)
      go_roundw
      case rel => exact ⟨j + 1, q2, z + 1, by omega, by go_num, Lib.hid (by rw [hz.out]; omega), rfl, HQ2, hb.trans (hb1.mono hb.size)⟩
      case measure => simp [intOf]; omega
    · obtain rfl : j = n := by omega
      have hzt : ¬ z < t := by rw [hz.out]; have := HN.out; omega
      go_wp2
      go_ret
      exact ⟨by rw [hq.out]; rfl, hb⟩
end Go.Proofs.YtpophimnoakinaaDoor
