/- Contract of the document's own pad. -/
import Derived.Test.YtpophimnoakinaaDoorRows
import Derived.Test.YtpophimnoakinaaDoorHrefb
import Derived.ProofKit
import Derived.OpenShut
import Derived.WalkSpells
import Derived.WalkLawsBesides
import Derived.Outline
namespace Go.Proofs.YtpophimnoakinaaDoor
open Go.ChangeShapes Go.WideShapes Go.ChangeAt Go.RowKit
set_option linter.unusedVariables false
set_option linter.unusedSimpArgs false

theorem Tryd.infob : (Tryd.prog.info? 5).map (fun i => (i.zero, i.size, i.bytes)) = some (some (.int .u8 0), 1, 1) := by kernel_rfl
theorem pad_zeros (n z j : Nat) (hz : z = (119 - n % 64) % 64) (hj : j ≤ z) : ((n + 1 + j) % 64 = 56 ↔ j = z) := by
  obtain ⟨m, hm⟩ : ∃ m, m = n % 64 := ⟨_, rfl⟩
  have h2 : m < 64 := by omega
  rw [← hm] at hz
  constructor <;> intro h <;> omega
theorem be8_take (N k : Nat) (hk : k < 8) : (be8 N).take (k + 1) = (be8 N).take k ++ [UInt8.ofNat (N / 2 ^ (8 * (7 - k)))] := by
  unfold be8
  rw [List.take_succ_eq_append_getElem (by simp; omega)]
  simp
theorem byte_val (N : Nat) : ((UInt8.ofNat N).toNat : Int) = (N : Int) % 256 := by
  rw [UInt8.toNat_ofNat']; omega

set_option maxHeartbeats 800000 in
set_option maxRecDepth 100000 in
theorem pad_any (s : ByteArray) (w : World) (hs : s.size ≤ 1099511627776) :
    Calls Tryd.prog 50 #[.string s] w fun e w' => e = .returned (.string ⟨(padL s.data.toList s.size).toArray⟩) ∧ Below w.heap.size w w' := by
  obtain ⟨L, hL⟩ : ∃ L, L = s.data.toList := ⟨_, rfl⟩
  have hLs : L.length = s.size := by rw [hL]; simp
  obtain ⟨z, hz⟩ : ∃ z, z = (119 - s.size % 64) % 64 := ⟨_, rfl⟩
  have hz64 : z < 64 := by omega
  obtain ⟨R, hR⟩ : ∃ R, R = padL L s.size := ⟨_, rfl⟩
  have hP : Hid (R = L ++ ([128] ++ (List.replicate z 0 ++ be8 (8 * s.size)))) := Lib.hid (by rw [hR, hz]; rfl)
  have PZ := Lib.hid (fun j => pad_zeros s.size z j hz)
  rw [← hL, ← hR]
  obtain ⟨v0, W1, hrun, hO, hB⟩ := own_of_string (P := Tryd.prog) w 9 35 5 s Tryd.underlying9 Tryd.underlying35 Tryd.underlying5 (by unfold maxLen; omega)
  have hO' : Own W1 w.heap.size 5 v0 s.size (bytesV L) := by rw [hL]; exact hO
  have hB1 : w.heap.size ≤ W1.heap.size := hB.size
  obtain ⟨i0, hi, hz0, hz1, hz2⟩ := info_parts Tryd.infob
  have HLS := Lib.hid hLs
  clear hL hR hz hO hLs
  go_enter Tryd.func50, Tryd.ntmps50
  go_wp2_with (at_builtin; refine wp_ap rfl (.tmp 6) (.tmp 7) 35 rfl w.heap.size 5 i0 _ Tryd.underlying35 hi hz0 hz1 hz2 rfl v0 s.size _ rfl (hO'.alloc _) ⟨W1.heap.size, 0, none⟩ 1 1 [.int .u8 128] rfl rfl (cell_one_new _ _ _) (by intro u hu; simp at hu; subst hu; rfl) (by omega) (by simp; omega) ?_; intro v1 W2 hO2 hb2)
  obtain ⟨g1, c1, rfl, hc1, hm1⟩ := hO2.form
  have hB2 : Below w.heap.size w W2 := (hB.alloc hB.size _).trans hb2
  go_loopw [3] (fun v wr => ∃ j g cap, j ≤ z ∧ cap ≤ maxLen ∧ s.size + 1 + j ≤ cap ∧ v = .slice (some ⟨g, 0, none⟩) (s.size + 1 + j) cap ∧ Own wr w.heap.size 5 v (s.size + 1 + j) (bytesV (L ++ ([128] ++ List.replicate j 0))) ∧ Below w.heap.size w wr) (fun v _ => match v with | .slice _ k _ => s.size + 1 + z - k | _ => 0)
  case atStart =>
    refine ⟨0, g1, c1, by omega, hm1, by omega, rfl, ?_, hB2⟩
    simpa [bytesV] using hO2
  case round =>
    clear hO2 hb2 hB2 hrun hO' hB
    obtain ⟨j, g, cap, hj, hm, hjc, rfl, hO, hb⟩ := hrel
    unfold maxLen at hm
    by_cases hlt : j < z
    · have hne : ¬ ((s.size + 1 + j) % 64 = 56) := fun h => by have := (PZ.out j hj).1 h; omega
      have hne' : ¬ (((s.size + 1 + j : Nat) : Int) % 64 = 56) := by omega
      have hbs := hb.size
      go_wp2_with (at_builtin; refine wp_ap rfl (.tmp 13) (.tmp 14) 35 rfl w.heap.size 5 i0 _ Tryd.underlying35 hi hz0 hz1 hz2 rfl _ (s.size + 1 + j) _ rfl (hO.alloc _) ⟨wr.heap.size, 0, none⟩ 1 1 [.int .u8 0] rfl rfl (cell_one_new _ _ _) (by intro u hu; simp at hu; subst hu; rfl) (by omega) (by simp; omega) ?_; intro v2 W3 hO3 hb3)
      obtain ⟨g2, c2, rfl, hc2, hm2⟩ := hO3.form
      go_roundw
      case rel =>
        refine ⟨j + 1, g2, c2, by omega, hm2, by omega, rfl, ?_, (hb.alloc hb.size _).trans hb3⟩
        rw [List.replicate_succ', ← List.append_assoc [128], ← List.append_assoc L, bytesV_append]
        exact hO3
      case measure => simp; omega
    · obtain rfl : j = z := by omega
      have heq : (s.size + 1 + j) % 64 = 56 := (PZ.out j (Nat.le_refl _)).2 rfl
      have heq' : ((s.size + 1 + j : Nat) : Int) % 64 = 56 := by omega
      obtain ⟨Pre, hPre⟩ : ∃ l, l = L ++ ([128] ++ List.replicate j 0) := ⟨_, rfl⟩
      rw [← hPre] at hO
      have hRP : Hid (R = Pre ++ be8 (8 * s.size)) := Lib.hid (by rw [hP.out, hPre]; simp [List.append_assoc])
      obtain ⟨N1, hN1⟩ : ∃ N1, N1 = s.size + 1 + j := ⟨_, rfl⟩
      rw [← hN1] at hO heq heq' hjc ⊢
      have hNb : N1 ≤ 1099511627841 := by omega
      clear hPre hN1
      go_wp2
      rw [heq']
      clear heq' heq
      go_loopw [3, 4] (fun v i wr => ∃ k g cap, k ≤ 8 ∧ cap ≤ maxLen ∧ N1 + k ≤ cap ∧ i = .int .i64 (56 - 8 * (k : Int)) ∧ v = .slice (some ⟨g, 0, none⟩) (N1 + k) cap ∧ Own wr w.heap.size 5 v (N1 + k) (bytesV (Pre ++ (be8 (8 * s.size)).take k)) ∧ Below w.heap.size w wr) (fun v _ _ => match v with | .slice _ k _ => N1 + 8 - k | _ => 0)
      case atStart =>
        refine ⟨0, g, cap, by omega, hm, by omega, rfl, rfl, ?_, hb⟩
        simpa using hO
      case round =>
        clear hO hb
        obtain ⟨k, g, cap, hk, hm, hkc, rfl, rfl, hO, hb⟩ := hrel
        unfold maxLen at hm
        have hbs := hb.size
        by_cases hlt8 : k < 8
        · obtain ⟨e, he⟩ : ∃ e : Nat, (56 - 8 * (k : Int)) = (e : Int) := ⟨56 - 8 * k, by omega⟩
          have he56 : e ≤ 56 := by omega
          have hbt := be8_take (8 * s.size) k hlt8
          rw [show 8 * (7 - k) = e by omega] at hbt
          have HBT := Lib.hid hbt
          have HE := Lib.hid he
          rw [he]
          clear hbt he
          go_wp2_with (at_builtin; refine wp_ap rfl (.tmp 20) (.tmp 29) 35 rfl w.heap.size 5 i0 _ Tryd.underlying35 hi hz0 hz1 hz2 rfl _ (N1 + k) _ rfl (hO.alloc _) ⟨wr.heap.size, 0, none⟩ 1 1 [.int .u8 ((s.size : Int) * 8 / 2 ^ e % 256)] rfl rfl (cell_one_new _ _ _) (by intro u hu; simp at hu; subst hu; rfl) (by omega) (by simp; omega) ?_; intro v2 W3 hO3 hb3)
          obtain ⟨g2, c2, rfl, hc2, hm2⟩ := hO3.form
          go_roundw
          case rel =>
            refine ⟨k + 1, g2, c2, by omega, hm2, by omega, ?_, rfl, ?_, (hb.alloc hb.size _).trans hb3⟩
            · have := HE.out
              congr 1
              omega
            · rw [HBT.out, ← List.append_assoc, bytesV_append]
              have hv : bytesV [UInt8.ofNat (8 * s.size / 2 ^ e)] = [Value.int .u8 ((s.size : Int) * 8 / 2 ^ e % 256)] := by
                show [Value.int .u8 ((UInt8.ofNat (8 * s.size / 2 ^ e)).toNat : Int)] = _
                rw [byte_val, Int.mul_comm]
                push_cast
                rfl
              rw [hv]
              exact hO3
          case measure => simp; omega
        · obtain rfl : k = 8 := by omega
          have hO' : Own wr w.heap.size 5 (.slice (some ⟨g, 0, none⟩) (N1 + 8) cap) (N1 + 8) (R.map fun b => Value.int .u8 (b.toNat : Int)) := by
            rw [hRP.out]
            rw [List.take_of_length_le (by rw [be8_length]; omega)] at hO
            exact hO
          have hcv := conv_Own (P := Tryd.prog) wr 35 9 5 w.heap.size (N1 + 8) _ R hO' Tryd.underlying35 Tryd.underlying5 Tryd.underlying9
          rw [show (56 - 8 * ((8 : Nat) : Int)) = -8 from rfl]
          clear hO hO'
          go_wp2
          go_ret
          exact ⟨rfl, hb⟩

end Go.Proofs.YtpophimnoakinaaDoor
