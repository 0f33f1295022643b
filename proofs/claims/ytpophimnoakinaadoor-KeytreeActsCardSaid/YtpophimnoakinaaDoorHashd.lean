/- Contracts of package hash: padded (what is padded behind the end of a text) and Pad. -/
import Derived.Test.YtpophimnoakinaaDoorHasha
import Derived.Test.YtpophimnoakinaaDoorShelf
namespace Go.Proofs.YtpophimnoakinaaDoor
open Go.ChangeShapes Go.WideShapes Go.ChangeAt Go.RowKit
set_option linter.unusedVariables false
set_option linter.unusedSimpArgs false

theorem put4_size (w : World) (g o : Nat) (x : Int) : (put4 w g o x).heap.size = w.heap.size := by simp [put4, World.setCell]
/-- The eight bytes of a number, as two words of four. -/
theorem be8_words (n : Nat) : be8 n = [byteI ((n : Int) / 4294967296 % 4294967296 / 16777216), byteI ((n : Int) / 4294967296 % 4294967296 / 65536), byteI ((n : Int) / 4294967296 % 4294967296 / 256), byteI ((n : Int) / 4294967296 % 4294967296),
    byteI ((n : Int) % 4294967296 / 16777216), byteI ((n : Int) % 4294967296 / 65536), byteI ((n : Int) % 4294967296 / 256), byteI ((n : Int) % 4294967296)] := by
  have e : ∀ (m : Nat) (x : Int), x % 256 = ((m % 256 : Nat) : Int) → UInt8.ofNat m = byteI x := by
    intro m x h
    unfold byteI
    rw [h]
    apply UInt8.toNat_inj.1
    rw [UInt8.toNat_ofNat', UInt8.toNat_ofNat']
    omega
  show [UInt8.ofNat (n / 72057594037927936), UInt8.ofNat (n / 281474976710656), UInt8.ofNat (n / 1099511627776), UInt8.ofNat (n / 4294967296), UInt8.ofNat (n / 16777216), UInt8.ofNat (n / 65536), UInt8.ofNat (n / 256), UInt8.ofNat (n / 1)] = _
  refine List.cons_eq_cons.2 ⟨e _ _ ?_, List.cons_eq_cons.2 ⟨e _ _ ?_, List.cons_eq_cons.2 ⟨e _ _ ?_, List.cons_eq_cons.2 ⟨e _ _ ?_, List.cons_eq_cons.2 ⟨e _ _ ?_, List.cons_eq_cons.2 ⟨e _ _ ?_, List.cons_eq_cons.2 ⟨e _ _ ?_, List.cons_eq_cons.2 ⟨e _ _ ?_, rfl⟩⟩⟩⟩⟩⟩⟩⟩ <;> omega

theorem zpad (n : Nat) : ∃ z : Nat, ((119 : Int) - (n : Int) % 64) % 64 = (z : Int) ∧ z < 64 ∧ z = (119 - n % 64) % 64 := by
  obtain ⟨m, hm⟩ : ∃ m, m = n % 64 := ⟨_, rfl⟩
  have h1 : (n : Int) % 64 = (m : Int) := by omega
  have h2 : m < 64 := by omega
  rw [h1, ← hm]
  exact ⟨(119 - m) % 64, by omega, by omega, rfl⟩
set_option maxHeartbeats 400000 in
set_option maxRecDepth 100000 in
theorem padded_any (s : ByteArray) (n : Nat) (w : World) (hs : s.size ≤ 1099511627776) (hn : n ≤ 1099511627776) :
    Calls Tryd.prog 71 #[.string s, .int .i64 n] w fun e w' => e = .returned (.string ⟨(padL s.data.toList n).toArray⟩) ∧ Below w.heap.size w w' := by
  obtain ⟨z, hz, hz64, hzn⟩ := zpad n
  obtain ⟨R, hR⟩ : ∃ R, R = padL s.data.toList n := ⟨_, rfl⟩
  have hP : Hid (R = s.data.toList ++ ([128] ++ (List.replicate z 0 ++ be8 (8 * n)))) := Lib.hid (by rw [hR, hzn]; unfold padL; rfl)
  rw [← hR]
  clear hR
  have hb8 := be8_words (8 * n)
  rw [show ((8 * n : Nat) : Int) = 8 * (n : Int) by push_cast; rfl] at hb8
  rw [show 8 * (n : Int) / 4294967296 % 4294967296 = 8 * (n : Int) / 4294967296 by omega] at hb8
  have HB8 := Lib.hid hb8
  clear hzn hb8
  have A0 : Arr (w.alloc (.cells #[Value.int .u8 0, Value.int .u8 0, Value.int .u8 0, Value.int .u8 0, Value.int .u8 0, Value.int .u8 0, Value.int .u8 0, Value.int .u8 0] 93)) w.heap.size 93 [Value.int .u8 0, Value.int .u8 0, Value.int .u8 0, Value.int .u8 0, Value.int .u8 0, Value.int .u8 0, Value.int .u8 0, Value.int .u8 0] := Arr.new w [Value.int .u8 0, Value.int .u8 0, Value.int .u8 0, Value.int .u8 0, Value.int .u8 0, Value.int .u8 0, Value.int .u8 0, Value.int .u8 0] _
  obtain ⟨x1, hx1⟩ : ∃ x, 8 * (n : Int) / 4294967296 = x := ⟨_, rfl⟩
  obtain ⟨x2, hx2⟩ : ∃ x, 8 * (n : Int) % 4294967296 = x := ⟨_, rfl⟩
  have PW1 := Lib.hid (putWord_any w.heap.size 0 4 8 x1 _ _ _ A0 (by decide) (by omega) (by decide) (by omega))
  have PW2 := Lib.hid (fun (wx : World) (ha : Arr wx w.heap.size 93 ([] ++ (bytesV [byteI (x1 / 16777216), byteI (x1 / 65536), byteI (x1 / 256), byteI x1] ++ [Value.int .u8 0, Value.int .u8 0, Value.int .u8 0, Value.int .u8 0]))) => putWord_any w.heap.size 4 4 4 x2 _ _ wx ha (by simp [bytesV]) (by omega) (by decide) (by omega))
  go_enter Tryd.func71, Tryd.ntmps71
  go_wp2_with (first | (go_at_call 72; (with_reducible refine PW1.out.mono ?_); rintro e w1 ⟨rfl, hw1⟩; (try simp only [hz]); have A1 := put4_arr (o := 0) (a := []) (v0 := .int .u8 0) (v1 := .int .u8 0) (v2 := .int .u8 0) (v3 := .int .u8 0) (b := [Value.int .u8 0, Value.int .u8 0, Value.int .u8 0, Value.int .u8 0]) (x := x1) A0 rfl; rw [← hw1] at A1; have HW1 := Lib.hid hw1; clear hw1) | (go_at_call 72; (with_reducible refine (PW2.out _ A1).mono ?_); rintro e w2 ⟨rfl, hw2⟩; have A2 := put4_arr (o := 4) (a := bytesV [byteI (x1 / 16777216), byteI (x1 / 65536), byteI (x1 / 256), byteI x1]) (v0 := .int .u8 0) (v1 := .int .u8 0) (v2 := .int .u8 0) (v3 := .int .u8 0) (b := []) (x := x2) A1 rfl; rw [← hw2] at A2; have HW2 := Lib.hid hw2; clear hw2))
  have hz2 : w2.heap.size = w.heap.size + 1 := by rw [HW2.out, put4_size, HW1.out, put4_size]; simp
  have hb2 : Below w.heap.size w w2 := by
    rw [HW2.out]
    refine put4_below ?_ (Nat.le_refl _)
    rw [HW1.out]
    exact put4_below ((Below.refl _ _).alloc (Nat.le_refl _) _) (Nat.le_refl _)
  obtain ⟨NB, hNB⟩ : ∃ l, l = be8 (8 * n) := ⟨_, rfl⟩
  have A3 : Arr w2 w.heap.size 93 (bytesV NB) := by
    rw [hNB, HB8.out, hx1, hx2]
    exact A2
  have hNl : NB.length = 8 := by rw [hNB, be8_length]
  have hPR : Hid (R = s.data.toList ++ ([128] ++ (List.replicate z 0 ++ NB))) := by rw [hNB]; exact hP
  clear hNB A2 A1 PW1 PW2 HB8 hP hx1 hx2 HW1 HW2
  rw [show ((s.size : Int) + 1 + (z : Int) + 8) = ((s.size + 1 + z + 8 : Nat) : Int) by push_cast; rfl]
  obtain ⟨B, hB⟩ : ∃ B, B = w2.heap.size := ⟨_, rfl⟩
  rw [← hB]
  have HBk : (w2.alloc (.cells #[.pointer none, .slice none 0 0] 45)).heap[B]? = some (.cells #[.pointer none, .slice none 0 0] 45 (0, 0)) := by rw [hB]; exact heap_alloc_new _ _
  have hBs : B ≤ (w2.alloc (.cells #[.pointer none, .slice none 0 0] 45)).heap.size := by rw [hB]; simp
  refine (b_grow B B (s.size + 1 + z + 8) _ (Nat.le_refl _) HBk hBs (by omega)).mono ?_
  rintro e w3 ⟨rfl, hA3, hb3⟩
  have g3 : Below w.heap.size w w3 := (hb2.alloc hb2.size _).trans (hb3.mono (by omega))
  have N3 : Arr w3 w.heap.size 93 (bytesV NB) := (A3.alloc _).below hb3 (by omega)
  have s3 : B ≤ w3.heap.size := Nat.le_trans hBs hb3.size
  have hBw : w.heap.size < B := by omega
  have I3 : Lib.IsBuilder 45 5 B B [] w3 := .inr hA3
  clear hB hz2 HBk hBs hb2 A3 A0 hb3 hA3
  have hstr : (Lib.strCells s).length = s.size := Lib.strCells_length s
  have WS := Lib.hid (b_writeString B B [] s w3 I3 (by simp; omega) s3)
  clear I3
  go_wp2_with (first | (go_at_call 36; (with_reducible refine WS.out.mono ?_); rintro e w4 ⟨rfl, hA4, hb4⟩; have WB := Lib.hid (b_writeByte B B _ 128 w4 (.inr hA4) (by simp [hstr]; omega) (Nat.le_trans s3 hb4.size))) | (go_at_call 35; (with_reducible refine WB.out.mono ?_); rintro e w5 ⟨rfl, hA5, hb5⟩))
  have g5 : Below w.heap.size w w5 := (g3.trans (hb4.mono (by omega))).trans (hb5.mono (by omega))
  have N5 : Arr w5 w.heap.size 93 (bytesV NB) := (N3.below hb4 hBw).below hb5 hBw
  have s5 : B ≤ w5.heap.size := Nat.le_trans (Nat.le_trans s3 hb4.size) hb5.size
  clear hA4 hb4 hb5 g3 N3 s3 WS WB
  go_loopw [36] (fun i wr => ∃ j : Nat, j ≤ z ∧ i = .int .i64 j ∧ Lib.IsBuilder 45 5 B B (bytesV (s.data.toList ++ ([128] ++ List.replicate j 0))) wr ∧ Below w.heap.size w wr ∧ Arr wr w.heap.size 93 (bytesV NB) ∧ B ≤ wr.heap.size) (fun i _ => z - (intOf i).toNat)
  case atStart =>
    refine ⟨0, by omega, rfl, .inr ?_, g5, N5, s5⟩
    simpa [bytesV, Lib.strCells] using hA5
  case round =>
    clear hA5 g5 N5 s5
    obtain ⟨j, hj, rfl, hI, hb, hN, hsz⟩ := hrel
    by_cases hlt : j < z
    · have hle : (bytesV (s.data.toList ++ ([128] ++ List.replicate j 0))).length = s.size + 1 + j := by simp [bytesV]; omega
      have WB := Lib.hid (b_writeByte B B _ 0 wr hI (by rw [hle]; omega) hsz)
      clear hle
      go_wp2_with (go_at_call 35; (with_reducible refine WB.out.mono ?_); rintro e w6 ⟨rfl, hA6, hb6⟩)
      go_roundw
      case rel =>
        refine ⟨j + 1, by omega, rfl, .inr ?_, hb.trans (hb6.mono (by omega)), hN.below hb6 hBw, Nat.le_trans hsz hb6.size⟩
        rw [List.replicate_succ', ← List.append_assoc [128], ← List.append_assoc s.data.toList]
        rw [bytesV_append]
        exact hA6
      case measure => simp [intOf]; omega
    · obtain rfl : j = z := by omega
      have hle : (bytesV (s.data.toList ++ ([128] ++ List.replicate j 0))).length = s.size + 1 + j := by simp [bytesV]; omega
      have WR := Lib.hid (b_write B B _ ⟨w.heap.size, 0, none⟩ 8 8 (bytesV NB) wr hI (by rw [bytesV_length, hNl]) (fun k u hk => by rw [Addr.add_lit]; simpa using hN.cellAt hk) hBw (by intro u hu; simp [bytesV] at hu; obtain ⟨b, _, rfl⟩ := hu; rfl) (by rw [hle]; omega) hsz)
      clear hle
      go_wp2_with (first | (go_at_call 90; (with_reducible refine WR.out.mono ?_); rintro e w6 ⟨rfl, hA6, hb6⟩; have ST := b_string B B R w6 (.inr (by rw [hPR.out, ← List.append_assoc [128], ← List.append_assoc s.data.toList]; rw [← bytesV_append] at hA6; exact hA6)) (Nat.le_trans hsz hb6.size); have HST := Lib.hid ST; clear ST) | (go_at_call 40; (with_reducible refine HST.out.mono ?_); rintro e w7 ⟨rfl, hb7⟩))
      go_ret
      exact ⟨rfl, (hb.trans (hb6.mono (by omega))).trans (hb7.mono (by omega))⟩

end Go.Proofs.YtpophimnoakinaaDoor
