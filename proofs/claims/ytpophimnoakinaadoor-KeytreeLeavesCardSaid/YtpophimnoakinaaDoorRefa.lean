/- The contract of the document's own Encode: what it returns for any string, and that it changes no old memory. -/
import Derived.Test.YtpophimnoakinaaDoorRefb
namespace Go.Proofs.YtpophimnoakinaaDoor
open Go.ChangeShapes Go.WideShapes Go.ChangeAt Go.RowKit
set_option linter.unusedVariables false
set_option linter.unusedSimpArgs false

set_option maxRecDepth 100000 in
theorem rencode_limit (s : ByteArray) (w : World) (h : 65536 < s.size) (hm : s.size ≤ maxLen) :
    Calls Tryd.prog 81 #[.string s] w fun e w' => e = .returned (.tuple #[.string ⟨#[]⟩, .int .i64 3]) ∧ w = w' := by
  unfold maxLen at hm
  go_enter Tryd.func81, Tryd.ntmps81
  go_wp2
  go_ret2
  exact ⟨rfl, rfl⟩

set_option maxRecDepth 100000 in
theorem rencode_size (s : ByteArray) (w : World) (h : s.size ≤ 65536) (hz : s.size % 3 ≠ 0) :
    Calls Tryd.prog 81 #[.string s] w fun e w' => e = .returned (.tuple #[.string ⟨#[]⟩, .int .i64 8]) ∧ w = w' := by
  have hz' : ((s.size : Int) % 3 != 0) = true := by simp only [bne_iff_ne, ne_eq]; omega
  clear hz
  go_enter Tryd.func81, Tryd.ntmps81
  go_wp2
  go_ret2
  exact ⟨rfl, rfl⟩

set_option maxRecDepth 100000 in
set_option maxHeartbeats 400000 in
theorem rencode_any (s : ByteArray) (b : Nat) (w : World) (hb : s.size = 3 * b) (h : s.size ≤ 65536) :
    Calls Tryd.prog 81 #[.string s] w fun e w' => e = .returned (.tuple #[.string (strL (encL s.data.toList)), .int .i64 0]) ∧ Below w.heap.size w w' := by
  obtain ⟨i0, hi, hz0, hz1, hz2⟩ := info_parts Tryd.info5
  have hmod : ((s.size : Int) % 3 != 0) = false := by simp only [bne_eq_false_iff_eq]; omega
  have hb' : b ≤ 21845 := by omega
  have HB := Lib.hid hb
  clear hb
  go_enter Tryd.func81, Tryd.ntmps81
  go_wp2
  go_loopw [4, 5] (fun v i wr => ∃ j p : Nat, p = 3 * j ∧ j ≤ b ∧ i = .int .i64 p ∧ wr.ownsRow w.heap.size 5 1 v (4 * j) (bytesV (encL (s.data.toList.take p))) ∧ Below w.heap.size w wr) (fun _ i _ => s.size - (intOf i).toNat)
  case atStart => exact ⟨0, 0, rfl, Nat.zero_le _, rfl, World.ownsRow_nil _ _ _ _, Below.refl _ _⟩
  case round =>
    obtain ⟨j, p, hp, hj, rfl, hown, hbel⟩ := hrel
    have HP := Lib.hid hp
    by_cases hlt : j < b
    · have hs3 : p + 3 ≤ s.size := by rw [HB.out]; omega
      have i0' : (p : Int) < (s.size : Int) := by omega
      obtain ⟨p1, hp1⟩ : ∃ q, q = p + 1 := ⟨_, rfl⟩
      obtain ⟨p2, hp2⟩ : ∃ q, q = p + 2 := ⟨_, rfl⟩
      have i1' : (p1 : Int) < (s.size : Int) := by omega
      have i2' : (p2 : Int) < (s.size : Int) := by omega
      have wr1 : IntKind.i64.wrap ((p : Int) + 1) = (p1 : Int) := by rw [IntWalk.i64_in _ (by omega), hp1]; simp
      have wr2 : IntKind.i64.wrap ((p : Int) + 2) = (p2 : Int) := by rw [IntWalk.i64_in _ (by omega), hp2]; simp
      have HP1 := Lib.hid hp1
      have HP2 := Lib.hid hp2
      clear hp hp1 hp2
      obtain ⟨x0, hx0⟩ : ∃ x : Nat, x = (s.data.toList.getD (3 * j) 0).toNat := ⟨_, rfl⟩
      obtain ⟨x1, hx1⟩ : ∃ x : Nat, x = (s.data.toList.getD (3 * j + 1) 0).toNat := ⟨_, rfl⟩
      obtain ⟨x2, hx2⟩ : ∃ x : Nat, x = (s.data.toList.getD (3 * j + 2) 0).toNat := ⟨_, rfl⟩
      have gets : ∀ (k : Nat) (h : k < s.size), s[k]'h = s.data.toList.getD k 0 := by
        intro k hk
        have h1 : k < s.data.toList.length := by rw [Array.length_toList]; exact hk
        rw [List.getD, List.getElem?_eq_getElem h1]; rfl
      have g0 : ∀ h, (s[p]'h).toNat = x0 := by intro h; rw [gets, hx0, HP.out]
      have g1 : ∀ h, (s[p1]'h).toNat = x1 := by intro h; rw [gets, hx1, HP1.out, HP.out]
      have g2 : ∀ h, (s[p2]'h).toNat = x2 := by intro h; rw [gets, hx2, HP2.out, HP.out]
      have b0 : x0 < 256 := by rw [hx0]; exact UInt8.toNat_lt _
      have b1 : x1 < 256 := by rw [hx1]; exact UInt8.toNat_lt _
      have b2 : x2 < 256 := by rw [hx2]; exact UInt8.toNat_lt _
      have hN : blkN s.data.toList j = x0 * 65536 + x1 * 256 + x2 := by unfold blkN; rw [hx0, hx1, hx2]
      clear hx0 hx1 hx2 gets
      obtain ⟨y, hy⟩ : ∃ y, y = x0 * 65536 + x1 * 256 := ⟨_, rfl⟩
      obtain ⟨N, hNN⟩ : ∃ N, N = y + x2 := ⟨_, rfl⟩
      have o1 := or16 x0 x1 b0 b1
      rw [← hy] at o1
      have o2 := or8 y x2 (by omega) (by omega) b2
      rw [← hNN] at o2
      have hNlt : N < 16777216 := by omega
      have HN : Hid (blkN s.data.toList j = N) := by show _ = _; rw [hN, hNN, hy]
      clear hN hy hNN
      go_wp2_with fail
      go_quiet (fail)
      go_wp2_with fail
      clear g0 g1 g2 o1 o2 i0' i1' i2' b0 b1 b2 wr1 wr2
      obtain ⟨m0, hm0⟩ : ∃ m, m = N / 262144 % 64 := ⟨_, rfl⟩
      obtain ⟨m1, hm1⟩ : ∃ m, m = N / 4096 % 64 := ⟨_, rfl⟩
      obtain ⟨m2, hm2⟩ : ∃ m, m = N / 64 % 64 := ⟨_, rfl⟩
      obtain ⟨m3, hm3⟩ : ∃ m, m = N % 64 := ⟨_, rfl⟩
      have q0 : (N : Int) / 262144 = (m0 : Int) := by omega
      have q1 : bits BinOp.and IntKind.i64 ((N : Int) / 4096) 63 = (m1 : Int) := by rw [i64_and63]; omega
      have q2 : bits BinOp.and IntKind.i64 ((N : Int) / 64) 63 = (m2 : Int) := by rw [i64_and63]; omega
      have q3 : bits BinOp.and IntKind.i64 (N : Int) 63 = (m3 : Int) := by rw [i64_and63]; omega
      have l0 : (m0 : Int) < 64 := by omega
      have l1 : (m1 : Int) < 64 := by omega
      have l2 : (m2 : Int) < 64 := by omega
      have l3 : (m3 : Int) < 64 := by omega
      have a0 := alph_get m0
      have a1 := alph_get m1
      have a2 := alph_get m2
      have a3 := alph_get m3
      have hfour : digsL N 4 = [dig m0, dig m1, dig m2, dig m3] := by rw [digsL_four, ← hm0, ← hm1, ← hm2, ← hm3]
      have HF := Lib.hid hfour
      clear hfour hm0 hm1 hm2 hm3
      refine wp_region_steady 15 (by kernel_rfl) (by kernel_rfl) (fun _ d _ _ _ h => by cases d <;> exact h) ?_
      simp only [List.take_succ_cons, List.take_zero, List.drop_succ_cons, List.drop_zero]
      iterate 15 (refine steady_step ?_ ?_ ?_ (fun K hK => ?_); rotate_left; (rfl); (intro w0; go_simp; (try rfl)); (go_simp; refine hK _ ?_; clear hK K))
      refine steady_nil ?_
      clear a0 a1 a2 a3 q0 q1 q2 q3 l0 l1 l2 l3
      have hownd : (wr.drewN nq).drew.ownsRow w.heap.size 5 1 u4 (4 * j) (bytesV (encL (s.data.toList.take p))) := hown
      have hbd : Below w.heap.size w (wr.drewN nq).drew := (bdrewN hbel nq).drew
      generalize (wr.drewN nq).drew = wd at hownd hbd
      clear hown hbel
      have hstep := encL_step j s.data.toList (by simp; have : s.data.size = s.size := rfl; have := HP.out; omega)
      rw [HN.out] at hstep
      have HS := Lib.hid hstep
      clear hstep
      go_wp2_with (at_builtin; refine wpList_append_own _ rfl (.tmp 40) (.tmp 55) 35 rfl w.heap.size 5 i0 (.int .u8 0) 1 1 Tryd.underlying35 hi hz0 hz1 hz2 rfl (by decide) _ (4 * j) _ rfl (hownd.alloc _) ⟨wd.heap.size, 0, none⟩ 4 4 [.int .u8 (dig m0).toNat, .int .u8 (dig m1).toNat, .int .u8 (dig m2).toNat, .int .u8 (dig m3).toNat] rfl rfl (cells_new _ _ _ _ rfl) (by intro u hu; simp at hu; rcases hu with rfl | rfl | rfl | rfl <;> rfl) (by unfold maxLen; omega) (by omega) (by have := hbd.size; simp; omega) ?_)
      intro v' w2 hown2 hgrow _
      have hbel2 := obelow (hbd.alloc hbd.size _) (hownd.alloc _) hgrow (by have := hbd.size; simp; omega)
      have hown3 : w2.ownsRow w.heap.size 5 1 v' (4 * (j + 1)) (bytesV (encL (s.data.toList.take (3 * (j + 1))))) := by
        rw [HS.out, bytesV_append, HF.out, ← HP.out]
        exact hown2
      clear hown2 hgrow hownd hbd
      go_wp2
      go_roundw
      case rel => exact ⟨j + 1, p + 3, by rw [HP.out]; omega, by omega, by go_num, by rw [show p + 3 = 3 * (j + 1) by rw [HP.out]; omega]; exact hown3, hbel2⟩
      case measure => simp [intOf]; omega
    · have : j = b := by omega
      subst this
      have hfull : s.data.toList.take p = s.data.toList := by
        rw [HP.out, ← HB.out]; exact toList_take_size s
      have hps : ¬ p < s.size := by rw [HP.out, HB.out]; omega
      rw [hfull] at hown
      have hcv := conv_owns (P := Tryd.prog) wr 35 9 5 w.heap.size (4 * j) _ (encL s.data.toList) hown Tryd.underlying35 Tryd.underlying5 Tryd.underlying9
      clear hfull hp
      go_wp2
      go_ret2
      exact ⟨rfl, hbel⟩

theorem rencode_full (s : ByteArray) (w : World) (hm : s.size ≤ maxLen) :
    Calls Tryd.prog 81 #[.string s] w fun e w' => e = .returned (.tuple #[.string (encS s.data.toList), .int .i64 (encE s.data.toList)]) ∧ Below w.heap.size w w' := by
  have hl : s.data.toList.length = s.size := by rw [Array.length_toList]; rfl
  unfold encS encE
  rw [hl]
  by_cases h : 65536 < s.size
  · rw [if_pos (.inl h), if_pos h]
    exact (rencode_limit s w h hm).mono fun e w' ⟨he, hw⟩ => ⟨he, hw ▸ Below.refl _ _⟩
  · by_cases h3 : s.size % 3 ≠ 0
    · rw [if_pos (.inr h3), if_neg h, if_pos h3]
      exact (rencode_size s w (by omega) h3).mono fun e w' ⟨he, hw⟩ => ⟨he, hw ▸ Below.refl _ _⟩
    · rw [if_neg (by omega), if_neg h, if_neg h3]
      exact rencode_any s (s.size / 3) w (by omega) (by omega)

end Go.Proofs.YtpophimnoakinaaDoor
