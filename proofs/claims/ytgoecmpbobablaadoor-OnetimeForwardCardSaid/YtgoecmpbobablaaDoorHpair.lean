/- Contracts of Pair and Short of both sides, and of their helpers. -/
import Derived.Test.YtgoecmpbobablaaDoorHlaw
namespace Go.Proofs.YtgoecmpbobablaaDoor
open Go.ChangeShapes Go.WideShapes Go.ChangeAt Go.RowKit
set_option linter.unusedVariables false
set_option linter.unusedSimpArgs false

def pairL (a b : List UInt8) : List UInt8 := [1] ++ (be4 a.length ++ (a ++ (be4 b.length ++ b)))
theorem pairL_length (a b : List UInt8) : (pairL a b).length = 9 + a.length + b.length := by
  simp [pairL, be4_length]; omega
theorem be4_vals (k : Nat) : bytesV (be4 k) = [Value.int .u8 ((k : Int) / 16777216 % 256), .int .u8 ((k : Int) / 65536 % 256), .int .u8 ((k : Int) / 256 % 256), .int .u8 ((k : Int) % 256)] := by
  show [Value.int .u8 ((UInt8.ofNat (k / 16777216)).toNat : Int), .int .u8 ((UInt8.ofNat (k / 65536)).toNat : Int), .int .u8 ((UInt8.ofNat (k / 256)).toNat : Int), .int .u8 ((UInt8.ofNat (k / 1)).toNat : Int)] = _
  rw [byte_val, byte_val, byte_val, byte_val]
  simp
theorem bytesV_str (s : ByteArray) : Lib.strCells s = bytesV s.data.toList := rfl
/-- What is appended is owned, somewhere. -/
def Out4 (B : Nat) (n : Nat) (xs : List Value) (w0 : World) (e : Ending) (w' : World) : Prop := ∃ v, e = .returned v ∧ Own w' B 5 v n xs ∧ Below B w0 w'

set_option maxRecDepth 100000 in
theorem short_any (s : ByteArray) (w : World) (hs : s.size ≤ 1000000) (hT : STab w) :
    Calls Tryd.prog 31 #[.string s] w fun e w' => e = .returned (.string ((⟨(sumL s.data.toList).toArray⟩ : ByteArray).extract 0 16)) ∧ Below w.heap.size w w' := by
  have S1 := Lib.hid (sum_any s w (by omega) hT)
  obtain ⟨sm, hsm⟩ : ∃ sm : ByteArray, sm = ⟨(sumL s.data.toList).toArray⟩ := ⟨_, rfl⟩
  have hss : sm.size = 32 := by
    have : sm.size = (sumL s.data.toList).length := by rw [hsm]; show (sumL s.data.toList).toArray.size = _; simp
    rw [this, sumL_length]
  rw [← hsm] at S1 ⊢
  clear hsm
  have h16 : (16 : Int) ≤ (sm.size : Int) := by omega
  go_enter Tryd.func31, Tryd.ntmps31
  go_wp2_with (go_at_call 26; (with_reducible refine S1.out.mono ?_); rintro e w1 ⟨rfl, hb1⟩)
  go_ret
  exact ⟨rfl, hb1⟩
set_option maxRecDepth 100000 in
theorem rshort_any (s : ByteArray) (w : World) (hs : s.size ≤ 1000000) :
    Calls Tryd.prog 24 #[.string s] w fun e w' => e = .returned (.string ((⟨(sumL s.data.toList).toArray⟩ : ByteArray).extract 0 16)) ∧ Below w.heap.size w w' := by
  have S1 := Lib.hid (rsum_any s w (by omega))
  obtain ⟨sm, hsm⟩ : ∃ sm : ByteArray, sm = ⟨(sumL s.data.toList).toArray⟩ := ⟨_, rfl⟩
  have hss : sm.size = 32 := by
    have : sm.size = (sumL s.data.toList).length := by rw [hsm]; show (sumL s.data.toList).toArray.size = _; simp
    rw [this, sumL_length]
  rw [← hsm] at S1 ⊢
  clear hsm
  have h16 : (16 : Int) ≤ (sm.size : Int) := by omega
  go_enter Tryd.func24, Tryd.ntmps24
  go_wp2_with (go_at_call 23; (with_reducible refine S1.out.mono ?_); rintro e w1 ⟨rfl, hb1⟩)
  go_ret
  exact ⟨rfl, hb1⟩

end Go.Proofs.YtgoecmpbobablaaDoor
