/- Contracts of Pair and Short of both sides, and of their helpers. -/
import Derived.Test.YtfdaolmjgigcmaaDoorHlaw
namespace Go.Proofs.YtfdaolmjgigcmaaDoor
open Go.ChangeShapes Go.WideShapes Go.ChangeAt Go.RowKit
set_option linter.unusedVariables false
set_option linter.unusedSimpArgs false

def pairL (a b : List UInt8) : List UInt8 := [1] ++ (be4 a.length ++ (a ++ (be4 b.length ++ b)))
theorem pairL_length (a b : List UInt8) : (pairL a b).length = 9 + a.length + b.length := by
  simp [pairL, be4_length]; omega
theorem be4_vals (k : Nat) : bytesV (be4 k) = [Value.int .u8 ((k : Int) / 16777216 % 256), .int .u8 ((k : Int) / 65536 % 256), .int .u8 ((k : Int) / 256 % 256), .int .u8 ((k : Int) % 256)] := by
  show [Value.int .u8 ((UInt8.ofNat (k / 16777216)).toNat : Int), .int .u8 ((UInt8.ofNat (k / 65536)).toNat : Int), .int .u8 ((UInt8.ofNat (k / 256)).toNat : Int), .int .u8 ((UInt8.ofNat (k / 1)).toNat : Int)] = _
  rw [byte_val, byte_val, byte_val, byte_val]
  simp
theorem bytesV_str (s : ByteArray) : Lib.strCells s = bytesV s.data.toList := rfl
/-- What is appended is owned, somewhere. -/
def Out4 (B : Nat) (n : Nat) (xs : List Value) (w0 : World) (e : Ending) (w' : World) : Prop := ∃ v, e = .returned v ∧ Own w' B 5 v n xs ∧ Below B w0 w'

set_option maxRecDepth 100000 in
theorem appendLength_any (B : Nat) (v : Value) (n : Nat) (xs : List Value) (k : Nat) (w : World) (hO : Own w B 5 v n xs) (hn : n ≤ 1099511627776) (hk : k ≤ 1099511627776) (hB : B ≤ w.heap.size) :
    Calls Tryd.prog 27 #[v, .int .i64 k] w (Out4 B (n + 4) (xs ++ bytesV (be4 k)) w) := by
  obtain ⟨i0, hi, hz0, hz1, hz2⟩ := info_parts Tryd.infob
  have hv := be4_vals k
  obtain ⟨Z, hZ⟩ : ∃ Z, Z = bytesV (be4 k) := ⟨_, rfl⟩
  rw [← hZ] at hv ⊢
  have HZ := Lib.hid hv
  clear hv hZ
  go_enter Tryd.func27, Tryd.ntmps27
  go_wp2_with (at_builtin; refine wp_ap rfl (.tmp 5) (.tmp 17) 24 rfl B 5 i0 _ Tryd.underlying24 hi hz0 hz1 hz2 rfl v n xs rfl (hO.alloc _) ⟨w.heap.size, 0, none⟩ 4 4 [.int .u8 ((k : Int) / 16777216 % 256), .int .u8 ((k : Int) / 65536 % 256), .int .u8 ((k : Int) / 256 % 256), .int .u8 ((k : Int) % 256)] rfl rfl (cells_new _ _ _ _ rfl) (by intro u hu; simp at hu; rcases hu with rfl | rfl | rfl | rfl <;> rfl) (by omega) (by simp; omega) ?_; intro v2 w2 hO2 hb2)
  go_ret
  exact ⟨_, rfl, by rw [HZ.out]; exact hO2, ((Below.refl B w).alloc hB _).trans hb2⟩
set_option maxRecDepth 100000 in
theorem appendString_any (B : Nat) (v : Value) (n : Nat) (xs : List Value) (s : ByteArray) (w : World) (hO : Own w B 5 v n xs) (hn : n ≤ 1099511627776) (hs : s.size ≤ 1099511627776) (hB : B ≤ w.heap.size) :
    Calls Tryd.prog 25 #[v, .string s] w (Out4 B (n + 4 + s.size) (xs ++ (bytesV (be4 s.size) ++ bytesV s.data.toList)) w) := by
  obtain ⟨i0, hi, hz0, hz1, hz2⟩ := info_parts Tryd.infob
  have AL := Lib.hid (appendLength_any B v n xs s.size w hO hn hs hB)
  obtain ⟨Z, hZ⟩ : ∃ Z, Z = bytesV (be4 s.size) := ⟨_, rfl⟩
  have hZl : Z.length = 4 := by rw [hZ, bytesV_length, be4_length]
  rw [← hZ] at AL ⊢
  clear hZ
  go_enter Tryd.func25, Tryd.ntmps25
  go_wp2_with (first | (go_at_call 27; (with_reducible refine AL.out.mono ?_); rintro e w1 ⟨v1, rfl, hO1, hb1⟩) | (at_builtin; refine wp_apS rfl (.tmp 8) (.tmp 9) 24 9 rfl B 5 i0 _ Tryd.underlying24 Tryd.underlying9 hi hz0 hz1 hz2 rfl v1 (n + 4) _ rfl hO1 s rfl (by omega) (Nat.le_trans hB hb1.size) ?_; intro v2 w2 hO2 hb2))
  go_ret
  refine ⟨_, rfl, ?_, hb1.trans hb2⟩
  rw [← List.append_assoc, ← bytesV_str]
  exact hO2
set_option maxRecDepth 100000 in
theorem pair_any (a b : ByteArray) (w : World) (ha : a.size ≤ 1000000) (hb : b.size ≤ 1000000) (hT : STab w) :
    Calls Tryd.prog 12 #[.string a, .string b] w fun e w' => e = .returned (.string ⟨(sumL (pairL a.data.toList b.data.toList)).toArray⟩) ∧ Below w.heap.size w w' := by
  obtain ⟨R, hR⟩ : ∃ R, R = pairL a.data.toList b.data.toList := ⟨_, rfl⟩
  have hal : a.data.toList.length = a.size := by simp
  have hbl : b.data.toList.length = b.size := by simp
  have hRl : R.length ≤ 1099511627776 := by rw [hR, pairL_length, hal, hbl]; omega
  have hRV : Hid (bytesV R = [Value.int .u8 1] ++ (bytesV (be4 a.size) ++ bytesV a.data.toList) ++ (bytesV (be4 b.size) ++ bytesV b.data.toList)) := Lib.hid (by
    rw [hR]; unfold pairL; rw [hal, hbl]; simp only [bytesV_append, List.append_assoc]; rfl)
  have hp : (⟨R.toArray⟩ : ByteArray).size ≤ 1099511627776 := by show R.toArray.size ≤ _; simpa using hRl
  obtain ⟨p, hpe⟩ : ∃ p : ByteArray, p = ⟨R.toArray⟩ := ⟨_, rfl⟩
  rw [← hpe] at hp
  have S1 := Lib.hid (fun (wx : World) (h : STab wx) => sum_any p wx hp h)
  rw [show p.data.toList = R by rw [hpe]] at S1
  have AS1 := Lib.hid (fun (wx : World) (v : Value) (hO : Own wx w.heap.size 5 v 1 [.int .u8 1]) (hB : w.heap.size ≤ wx.heap.size) => appendString_any w.heap.size v 1 _ a wx hO (by omega) (by omega) hB)
  have AS2 := Lib.hid (fun (wx : World) (v : Value) (hO : Own wx w.heap.size 5 v (1 + 4 + a.size) ([.int .u8 1] ++ (bytesV (be4 a.size) ++ bytesV a.data.toList))) (hB : w.heap.size ≤ wx.heap.size) => appendString_any w.heap.size v _ _ b wx hO (by omega) (by omega) hB)
  rw [← hR]
  have HT := Lib.hid hT
  have HP := Lib.hid hpe
  clear hR hal hbl hRl hpe hT
  go_enter Tryd.func12, Tryd.ntmps12
  have hO0 := Own.lit w w.heap.size 5 [.int .u8 1] (Nat.le_refl _) (by decide)
  go_wp2_with (first
    | (go_at_call 25; (with_reducible refine (AS1.out _ _ hO0 (by simp)).mono ?_); rintro e w1 ⟨v1, rfl, hO1, hb1⟩; have h1s : w.heap.size ≤ w1.heap.size := by have := hb1.size; simp at this; omega)
    | (go_at_call 25; (with_reducible refine (AS2.out _ _ hO1 h1s).mono ?_); rintro e w2 ⟨v2, rfl, hO2, hb2⟩; have hcv := conv_Own (P := Tryd.prog) w2 24 9 5 w.heap.size _ v2 R (by rw [show (R.map fun b => Value.int .u8 (b.toNat : Int)) = bytesV R from rfl, hRV.out]; exact hO2) Tryd.underlying24 Tryd.underlying5 Tryd.underlying9; rw [← HP.out] at hcv; have hB2 := ((((Below.refl w.heap.size w).alloc (Nat.le_refl _) _).trans hb1).trans hb2); clear hO2)
    | (go_at_call 10; (with_reducible refine (S1.out _ (HT.out.below hB2)).mono ?_); rintro e w3 ⟨rfl, hb3⟩))
  go_ret
  exact ⟨rfl, hB2.trans (hb3.mono hB2.size)⟩
set_option maxRecDepth 100000 in
theorem four_any (k : Nat) (w : World) (hk : k ≤ 1099511627776) : Calls Tryd.prog 26 #[.int .i64 k] w fun e w' => e = .returned (.string ⟨(be4 k).toArray⟩) ∧ Below w.heap.size w w' := by
  have hv := be4_vals k
  obtain ⟨F, hF⟩ : ∃ F, F = be4 k := ⟨_, rfl⟩
  have hFl : F.length = 4 := by rw [hF, be4_length]
  rw [← hF] at hv ⊢
  have hrow : Row (w.alloc (.cells #[.int .u8 ((k : Int) / 16777216 % 256), .int .u8 ((k : Int) / 65536 % 256), .int .u8 ((k : Int) / 256 % 256), .int .u8 ((k : Int) % 256)] 5)) w.heap.size 5 4 (F.map fun b => Value.int .u8 (b.toNat : Int)) := by
    rw [show (F.map fun b => Value.int .u8 (b.toNat : Int)) = bytesV F from rfl, hv]
    exact Row.new w _ _ _ (by simp) (by simp)
  have hcv := conv_row (P := Tryd.prog) _ 24 9 5 w.heap.size 5 4 4 F hFl hrow Tryd.underlying24 Tryd.underlying5 Tryd.underlying9
  clear hv hF hrow
  go_enter Tryd.func26, Tryd.ntmps26
  go_wp2
  go_ret
  exact ⟨rfl, (Below.refl _ _).alloc (Nat.le_refl _) _⟩
set_option maxRecDepth 100000 in
theorem rpair_any (a b : ByteArray) (w : World) (ha : a.size ≤ 1000000) (hb : b.size ≤ 1000000) :
    Calls Tryd.prog 13 #[.string a, .string b] w fun e w' => e = .returned (.string ⟨(sumL (pairL a.data.toList b.data.toList)).toArray⟩) ∧ Below w.heap.size w w' := by
  obtain ⟨R, hR⟩ : ∃ R, R = pairL a.data.toList b.data.toList := ⟨_, rfl⟩
  have hal : a.data.toList.length = a.size := by simp
  have hbl : b.data.toList.length = b.size := by simp
  have hRl : R.length ≤ 1099511627776 := by rw [hR, pairL_length, hal, hbl]; omega
  obtain ⟨fa, hfa⟩ : ∃ f : ByteArray, f = ⟨(be4 a.size).toArray⟩ := ⟨_, rfl⟩
  obtain ⟨fb, hfb⟩ : ∃ f : ByteArray, f = ⟨(be4 b.size).toArray⟩ := ⟨_, rfl⟩
  obtain ⟨p, hpe⟩ : ∃ p : ByteArray, { data := #[1] } ++ fa ++ a ++ fb ++ b = p := ⟨_, rfl⟩
  have hpl : p.data.toList = R := by
    rw [← hpe, hR, hfa, hfb]
    unfold pairL
    rw [hal, hbl]
    simp [ByteArray.data_append]
  have hp : p.size ≤ 1099511627776 := by
    have : p.size = p.data.toList.length := by simp
    rw [this, hpl]; exact hRl
  have S1 := Lib.hid (fun (wx : World) => rsum_any p wx hp)
  rw [hpl] at S1
  have F1 := Lib.hid (fun (wx : World) => four_any a.size wx (by omega))
  have F2 := Lib.hid (fun (wx : World) => four_any b.size wx (by omega))
  rw [← hfa] at F1
  rw [← hfb] at F2
  rw [← hR]
  have hfas : fa.size = 4 := by rw [hfa]; rfl
  have hfbs : fb.size = 4 := by rw [hfb]; rfl
  clear hR hal hbl hRl hfa hfb hpl
  go_enter Tryd.func13, Tryd.ntmps13
  go_wp2_with (first
    | (go_at_call 26; (with_reducible refine (F1.out _).mono ?_); rintro e w1 ⟨rfl, hb1⟩; clear F1)
    | (go_at_call 26; (with_reducible refine (F2.out _).mono ?_); rintro e w2 ⟨rfl, hb2⟩)
    | (go_at_call 11; (with_reducible refine (S1.out _).mono ?_); rintro e w3 ⟨rfl, hb3⟩))
  go_ret
  exact ⟨rfl, hb1.trans ((hb2.mono hb1.size).trans (hb3.mono (Nat.le_trans hb1.size hb2.size)))⟩
set_option maxRecDepth 100000 in
theorem short_any (s : ByteArray) (w : World) (hs : s.size ≤ 1000000) (hT : STab w) :
    Calls Tryd.prog 16 #[.string s] w fun e w' => e = .returned (.string ((⟨(sumL s.data.toList).toArray⟩ : ByteArray).extract 0 16)) ∧ Below w.heap.size w w' := by
  have S1 := Lib.hid (sum_any s w (by omega) hT)
  obtain ⟨sm, hsm⟩ : ∃ sm : ByteArray, sm = ⟨(sumL s.data.toList).toArray⟩ := ⟨_, rfl⟩
  have hss : sm.size = 32 := by
    have : sm.size = (sumL s.data.toList).length := by rw [hsm]; show (sumL s.data.toList).toArray.size = _; simp
    rw [this, sumL_length]
  rw [← hsm] at S1 ⊢
  clear hsm
  have h16 : (16 : Int) ≤ (sm.size : Int) := by omega
  go_enter Tryd.func16, Tryd.ntmps16
  go_wp2_with (go_at_call 10; (with_reducible refine S1.out.mono ?_); rintro e w1 ⟨rfl, hb1⟩)
  go_ret
  exact ⟨rfl, hb1⟩
set_option maxRecDepth 100000 in
theorem rshort_any (s : ByteArray) (w : World) (hs : s.size ≤ 1000000) :
    Calls Tryd.prog 17 #[.string s] w fun e w' => e = .returned (.string ((⟨(sumL s.data.toList).toArray⟩ : ByteArray).extract 0 16)) ∧ Below w.heap.size w w' := by
  have S1 := Lib.hid (rsum_any s w (by omega))
  obtain ⟨sm, hsm⟩ : ∃ sm : ByteArray, sm = ⟨(sumL s.data.toList).toArray⟩ := ⟨_, rfl⟩
  have hss : sm.size = 32 := by
    have : sm.size = (sumL s.data.toList).length := by rw [hsm]; show (sumL s.data.toList).toArray.size = _; simp
    rw [this, sumL_length]
  rw [← hsm] at S1 ⊢
  clear hsm
  have h16 : (16 : Int) ≤ (sm.size : Int) := by omega
  go_enter Tryd.func17, Tryd.ntmps17
  go_wp2_with (go_at_call 11; (with_reducible refine S1.out.mono ?_); rintro e w1 ⟨rfl, hb1⟩)
  go_ret
  exact ⟨rfl, hb1⟩

end Go.Proofs.YtfdaolmjgigcmaaDoor
