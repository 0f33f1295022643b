/- The contract of the document's own Encode: what it returns for any string, and that it changes no old memory. Then: Contracts of the document's own Value, Digit, Parse, Number and Decode: each returns just what the program's function returns. Then: The contract of the document's own Decode: it returns just what the program's Decode returns. -/
import Derived.Test.YtdmgmfdmakheiaaDoorBasf
import Derived.Test.YtdmgmfdmakheiaaDoorSched
import Derived.Test.YtdmgmfdmakheiaaDoorBasg
namespace Go.Proofs.YtdmgmfdmakheiaaDoor
open Go.ChangeShapes Go.WideShapes Go.ChangeAt Go.RowKit
set_option linter.unusedVariables false
set_option linter.unusedSimpArgs false

set_option maxRecDepth 100000 in
theorem rencode_limit (s : ByteArray) (w : World) (h : 65536 < s.size) (hm : s.size ≤ maxLen) :
    Calls Tryd.prog 56 #[.string s] w fun e w' => e = .returned (.tuple #[.string ⟨#[]⟩, .int .i64 3]) ∧ w = w' := by
  unfold maxLen at hm
  go_enter Tryd.func56, Tryd.ntmps56
  go_wp2
  go_ret2
  exact ⟨rfl, rfl⟩

set_option maxRecDepth 100000 in
theorem rencode_size (s : ByteArray) (w : World) (h : s.size ≤ 65536) (hz : s.size % 3 ≠ 0) :
    Calls Tryd.prog 56 #[.string s] w fun e w' => e = .returned (.tuple #[.string ⟨#[]⟩, .int .i64 8]) ∧ w = w' := by
  have hz' : ((s.size : Int) % 3 != 0) = true := by simp only [bne_iff_ne, ne_eq]; omega
  clear hz
  go_enter Tryd.func56, Tryd.ntmps56
  go_wp2
  go_ret2
  exact ⟨rfl, rfl⟩

set_option maxRecDepth 100000 in
set_option maxHeartbeats 400000 in
theorem rencode_any (s : ByteArray) (b : Nat) (w : World) (hb : s.size = 3 * b) (h : s.size ≤ 65536) :
    Calls Tryd.prog 56 #[.string s] w fun e w' => e = .returned (.tuple #[.string (strL (encL s.data.toList)), .int .i64 0]) ∧ Below w.heap.size w w' := by
  obtain ⟨i0, hi, hz0, hz1, hz2⟩ := info_parts Tryd.info5
  have hmod : ((s.size : Int) % 3 != 0) = false := by simp only [bne_eq_false_iff_eq]; omega
  have hb' : b ≤ 21845 := by omega
  have HB := Lib.hid hb
  clear hb
  go_enter Tryd.func56, Tryd.ntmps56
  go_wp2
  go_loopw [4, 5] (fun v i wr => ∃ j p : Nat, p = 3 * j ∧ j ≤ b ∧ i = .int .i64 p ∧ wr.ownsRow w.heap.size 5 1 v (4 * j) (bytesV (encL (s.data.toList.take p))) ∧ Below w.heap.size w wr) (fun _ i _ => s.size - (intOf i).toNat)
  case atStart => exact ⟨0, 0, rfl, Nat.zero_le _, rfl, World.ownsRow_nil _ _ _ _, Below.refl _ _⟩
  case round =>
    obtain ⟨j, p, hp, hj, rfl, hown, hbel⟩ := hrel
    have HP := Lib.hid hp
    by_cases hlt : j < b
    · have hs3 : p + 3 ≤ s.size := by rw [HB.out]; omega
      have i0' : (p : Int) < (s.size : Int) := by omega
      obtain ⟨p1, hp1⟩ : ∃ q, q = p + 1 := ⟨_, rfl⟩
      obtain ⟨p2, hp2⟩ : ∃ q, q = p + 2 := ⟨_, rfl⟩
      have i1' : (p1 : Int) < (s.size : Int) := by omega
      have i2' : (p2 : Int) < (s.size : Int) := by omega
      have wr1 : IntKind.i64.wrap ((p : Int) + 1) = (p1 : Int) := by rw [IntWalk.i64_in _ (by omega), hp1]; simp
      have wr2 : IntKind.i64.wrap ((p : Int) + 2) = (p2 : Int) := by rw [IntWalk.i64_in _ (by omega), hp2]; simp
      have HP1 := Lib.hid hp1
      have HP2 := Lib.hid hp2
      clear hp hp1 hp2
      obtain ⟨x0, hx0⟩ : ∃ x : Nat, x = (s.data.toList.getD (3 * j) 0).toNat := ⟨_, rfl⟩
      obtain ⟨x1, hx1⟩ : ∃ x : Nat, x = (s.data.toList.getD (3 * j + 1) 0).toNat := ⟨_, rfl⟩
      obtain ⟨x2, hx2⟩ : ∃ x : Nat, x = (s.data.toList.getD (3 * j + 2) 0).toNat := ⟨_, rfl⟩
      have gets : ∀ (k : Nat) (h : k < s.size), s[k]'h = s.data.toList.getD k 0 := by
        intro k hk
        have h1 : k < s.data.toList.length := by rw [Array.length_toList]; exact hk
        rw [List.getD, List.getElem?_eq_getElem h1]; rfl
      have g0 : ∀ h, (s[p]'h).toNat = x0 := by intro h; rw [gets, hx0, HP.out]
      have g1 : ∀ h, (s[p1]'h).toNat = x1 := by intro h; rw [gets, hx1, HP1.out, HP.out]
      have g2 : ∀ h, (s[p2]'h).toNat = x2 := by intro h; rw [gets, hx2, HP2.out, HP.out]
      have b0 : x0 < 256 := by rw [hx0]; exact UInt8.toNat_lt _
      have b1 : x1 < 256 := by rw [hx1]; exact UInt8.toNat_lt _
      have b2 : x2 < 256 := by rw [hx2]; exact UInt8.toNat_lt _
      have hN : blkN s.data.toList j = x0 * 65536 + x1 * 256 + x2 := by unfold blkN; rw [hx0, hx1, hx2]
      clear hx0 hx1 hx2 gets
      obtain ⟨y, hy⟩ : ∃ y, y = x0 * 65536 + x1 * 256 := ⟨_, rfl⟩
      obtain ⟨N, hNN⟩ : ∃ N, N = y + x2 := ⟨_, rfl⟩
      have o1 := or16 x0 x1 b0 b1
      rw [← hy] at o1
      have o2 := or8 y x2 (by omega) (by omega) b2
      rw [← hNN] at o2
      have hNlt : N < 16777216 := by omega
      have HN : Hid (blkN s.data.toList j = N) := by show _ = _; rw [hN, hNN, hy]
      clear hN hy hNN
      go_wp2_with fail
      go_quiet (fail)
      go_wp2_with fail
      clear g0 g1 g2 o1 o2 i0' i1' i2' b0 b1 b2 wr1 wr2
      obtain ⟨m0, hm0⟩ : ∃ m, m = N / 262144 % 64 := ⟨_, rfl⟩
      obtain ⟨m1, hm1⟩ : ∃ m, m = N / 4096 % 64 := ⟨_, rfl⟩
      obtain ⟨m2, hm2⟩ : ∃ m, m = N / 64 % 64 := ⟨_, rfl⟩
      obtain ⟨m3, hm3⟩ : ∃ m, m = N % 64 := ⟨_, rfl⟩
      have q0 : (N : Int) / 262144 = (m0 : Int) := by omega
      have q1 : bits BinOp.and IntKind.i64 ((N : Int) / 4096) 63 = (m1 : Int) := by rw [i64_and63]; omega
      have q2 : bits BinOp.and IntKind.i64 ((N : Int) / 64) 63 = (m2 : Int) := by rw [i64_and63]; omega
      have q3 : bits BinOp.and IntKind.i64 (N : Int) 63 = (m3 : Int) := by rw [i64_and63]; omega
      have l0 : (m0 : Int) < 64 := by omega
      have l1 : (m1 : Int) < 64 := by omega
      have l2 : (m2 : Int) < 64 := by omega
      have l3 : (m3 : Int) < 64 := by omega
      have a0 := alph_get m0
      have a1 := alph_get m1
      have a2 := alph_get m2
      have a3 := alph_get m3
      have hfour : digsL N 4 = [dig m0, dig m1, dig m2, dig m3] := by rw [digsL_four, ← hm0, ← hm1, ← hm2, ← hm3]
      have HF := Lib.hid hfour
      clear hfour hm0 hm1 hm2 hm3
      refine wp_region_steady 15 (by kernel_rfl) (by kernel_rfl) (fun _ d _ _ _ h => by cases d <;> exact h) ?_
      simp only [List.take_succ_cons, List.take_zero, List.drop_succ_cons, List.drop_zero]
      iterate 15 (refine steady_step ?_ ?_ ?_ (fun K hK => ?_); rotate_left; (rfl); (intro w0; go_simp; (try rfl)); (go_simp; refine hK _ ?_; clear hK K))
      refine steady_nil ?_
      clear a0 a1 a2 a3 q0 q1 q2 q3 l0 l1 l2 l3
      have hownd : (wr.drewN nq).drew.ownsRow w.heap.size 5 1 u4 (4 * j) (bytesV (encL (s.data.toList.take p))) := hown
      have hbd : Below w.heap.size w (wr.drewN nq).drew := (bdrewN hbel nq).drew
      generalize (wr.drewN nq).drew = wd at hownd hbd
      clear hown hbel
      have hstep := encL_step j s.data.toList (by simp; have : s.data.size = s.size := rfl; have := HP.out; omega)
      rw [HN.out] at hstep
      have HS := Lib.hid hstep
      clear hstep
      go_wp2_with (at_builtin; refine wpList_append_own _ rfl (.tmp 40) (.tmp 55) 49 rfl w.heap.size 5 i0 (.int .u8 0) 1 1 Tryd.underlying49 hi hz0 hz1 hz2 rfl (by decide) _ (4 * j) _ rfl (hownd.alloc _) ⟨wd.heap.size, 0, none⟩ 4 4 [.int .u8 (dig m0).toNat, .int .u8 (dig m1).toNat, .int .u8 (dig m2).toNat, .int .u8 (dig m3).toNat] rfl rfl (cells_new _ _ _ _ rfl) (by intro u hu; simp at hu; rcases hu with rfl | rfl | rfl | rfl <;> rfl) (by unfold maxLen; omega) (by omega) (by have := hbd.size; simp; omega) ?_)
      intro v' w2 hown2 hgrow _
      have hbel2 := obelow (hbd.alloc hbd.size _) (hownd.alloc _) hgrow (by have := hbd.size; simp; omega)
      have hown3 : w2.ownsRow w.heap.size 5 1 v' (4 * (j + 1)) (bytesV (encL (s.data.toList.take (3 * (j + 1))))) := by
        rw [HS.out, bytesV_append, HF.out, ← HP.out]
        exact hown2
      clear hown2 hgrow hownd hbd
      go_wp2
      go_roundw
      case rel => exact ⟨j + 1, p + 3, by rw [HP.out]; omega, by omega, by go_num, by rw [show p + 3 = 3 * (j + 1) by rw [HP.out]; omega]; exact hown3, hbel2⟩
      case measure => simp [intOf]; omega
    · have : j = b := by omega
      subst this
      have hfull : s.data.toList.take p = s.data.toList := by
        rw [HP.out, ← HB.out]; exact toList_take_size s
      have hps : ¬ p < s.size := by rw [HP.out, HB.out]; omega
      rw [hfull] at hown
      have hcv := conv_owns (P := Tryd.prog) wr 49 9 5 w.heap.size (4 * j) _ (encL s.data.toList) hown Tryd.underlying49 Tryd.underlying5 Tryd.underlying9
      clear hfull hp
      go_wp2
      go_ret2
      exact ⟨rfl, hbel⟩

theorem rencode_full (s : ByteArray) (w : World) (hm : s.size ≤ maxLen) :
    Calls Tryd.prog 56 #[.string s] w fun e w' => e = .returned (.tuple #[.string (encS s.data.toList), .int .i64 (encE s.data.toList)]) ∧ Below w.heap.size w w' := by
  have hl : s.data.toList.length = s.size := by rw [Array.length_toList]; rfl
  unfold encS encE
  rw [hl]
  by_cases h : 65536 < s.size
  · rw [if_pos (.inl h), if_pos h]
    exact (rencode_limit s w h hm).mono fun e w' ⟨he, hw⟩ => ⟨he, hw ▸ Below.refl _ _⟩
  · by_cases h3 : s.size % 3 ≠ 0
    · rw [if_pos (.inr h3), if_neg h, if_pos h3]
      exact (rencode_size s w (by omega) h3).mono fun e w' ⟨he, hw⟩ => ⟨he, hw ▸ Below.refl _ _⟩
    · rw [if_neg (by omega), if_neg h, if_neg h3]
      exact rencode_any s (s.size / 3) w (by omega) (by omega)

end Go.Proofs.YtdmgmfdmakheiaaDoor

namespace Go.Proofs.YtdmgmfdmakheiaaDoor
open Go.ChangeShapes Go.WideShapes Go.ChangeAt Go.RowKit
set_option linter.unusedVariables false
set_option linter.unusedSimpArgs false

/-- None of the first k digits is the character c. -/
def NotYet (k c : Nat) : Prop := ∀ i, i < k → (dig i).toNat ≠ c

set_option maxRecDepth 100000 in
theorem rvalue_any (c : Nat) (w : World) (hc : c < 256) :
    Calls Tryd.prog 72 #[.int .u8 c] w fun e w' => e = .returned (.tuple #[.int .i64 (vnum c), .bool (vis c)]) ∧ w = w' := by
  go_enter Tryd.func72, Tryd.ntmps72
  go_wp2
  go_loop [5] (fun i => ∃ k : Nat, k ≤ 64 ∧ i = .int .i64 k ∧ NotYet k c) (fun i => 64 - (intOf i).toNat)
  case atStart => exact ⟨0, Nat.zero_le _, rfl, fun i hi => absurd hi (Nat.not_lt_zero _)⟩
  case round =>
    obtain ⟨k, hk, rfl, hny⟩ := hrel
    have HNY := Lib.hid hny
    clear hny
    by_cases hlt : k < 64
    · have ha := alph_get k
      by_cases hd : (dig k).toNat = c
      · have hv : val1 c = k + 1 := by rw [← hd]; exact val1_dig k hlt
        have e1 : vnum c = (k : Int) := by unfold vnum; rw [hv]; rfl
        have e2 : vis c = true := by unfold vis; rw [hv]; simp
        have E1 := Lib.hid e1
        have E2 := Lib.hid e2
        have hdd : (((dig k).toNat : Int) == (c : Int)) = true := by simp; omega
        clear hv e1 e2 hd
        go_wp2
        go_ret2
        rw [E1.out, E2.out]
        exact ⟨rfl, rfl⟩
      · have hdd : (((dig k).toNat : Int) == (c : Int)) = false := by simp; omega
        have HD := Lib.hid hd
        clear hd
        go_wp2
        go_round
        case rel =>
          refine ⟨k + 1, by omega, by go_num, fun i hi => ?_⟩
          by_cases hik : i = k
          · rw [hik]; exact HD.out
          · exact HNY.out i (by omega)
        case measure => simp [intOf]; omega
    · have hv : val1 c = 0 := by
        by_cases h : val1 c = 0
        · exact h
        · have h1 := val1_le c
          exact absurd (dig_val1 c h) (HNY.out (val1 c - 1) (by omega))
      have e1 : vnum c = 0 := by unfold vnum; rw [hv]; rfl
      have e2 : vis c = false := by unfold vis; rw [hv]; rfl
      have E1 := Lib.hid e1
      have E2 := Lib.hid e2
      clear hv e1 e2
      go_wp2
      go_ret2
      rw [E1.out, E2.out]
      exact ⟨rfl, rfl⟩

theorem rvalue_dig (c : Nat) (v : Nat) (w : World) (hc : c < 256) (hv : val1 c = v + 1) :
    Calls Tryd.prog 72 #[.int .u8 c] w fun e w' => e = .returned (.tuple #[.int .i64 v, .bool true]) ∧ w = w' :=
  (rvalue_any c w hc).mono fun e w' ⟨he, hw⟩ => ⟨by rw [he]; unfold vnum vis; rw [hv]; simp, hw⟩
theorem rvalue_not (c : Nat) (w : World) (hc : c < 256) (hv : val1 c = 0) :
    Calls Tryd.prog 72 #[.int .u8 c] w fun e w' => e = .returned (.tuple #[.int .i64 0, .bool false]) ∧ w = w' :=
  (rvalue_any c w hc).mono fun e w' ⟨he, hw⟩ => ⟨by rw [he]; unfold vnum vis; rw [hv]; simp, hw⟩


set_option maxRecDepth 100000 in
theorem rparse_size (s : ByteArray) (w : World) (h : s.size < 1 ∨ 8 < s.size) (hm : s.size ≤ maxLen) :
    Calls Tryd.prog 64 #[.string s] w fun e w' => e = .returned (.tuple #[.int .i64 0, .int .i64 8]) ∧ w = w' := by
  unfold maxLen at hm
  rcases h with h | h
  · go_enter Tryd.func64, Tryd.ntmps64
    go_wp2
    go_ret2
    exact ⟨rfl, rfl⟩
  · have h1 : ¬ s.size < 1 := by omega
    go_enter Tryd.func64, Tryd.ntmps64
    go_wp2
    go_ret2
    exact ⟨rfl, rfl⟩

set_option maxRecDepth 100000 in
theorem rparse_walk (s : ByteArray) (w : World) (h1 : 1 ≤ s.size) (h8 : s.size ≤ 8) :
    Calls Tryd.prog 64 #[.string s] w fun e w' => e = .returned (.tuple #[.int .i64 (parN s.data.toList), .int .i64 (parE s.data.toList)]) ∧ w = w' := by
  have hN : parN s.data.toList = (rnum s.data.toList : Int) := by unfold parN; rw [len_is, if_neg (by omega)]
  have hE : parE s.data.toList = if allD s.data.toList = true then 0 else 4 := by unfold parE; rw [len_is, if_neg (by omega)]
  have PN := Lib.hid hN
  have PE := Lib.hid hE
  clear hN hE
  go_enter Tryd.func64, Tryd.ntmps64
  go_wp2
  go_loop [4, 18] (fun n i => ∃ k : Nat, k ≤ s.size ∧ i = .int .i64 k ∧ n = .int .i64 (numL (s.data.toList.take k)) ∧ allD (s.data.toList.take k) = true) (fun _ i => s.size - (intOf i).toNat)
  case atStart => exact ⟨0, Nat.zero_le _, rfl, rfl, rfl⟩
  case round =>
    obtain ⟨k, hk, rfl, rfl, hall⟩ := hrel
    have HA := Lib.hid hall
    clear hall
    by_cases hlt : k < s.size
    · obtain ⟨x, hx⟩ : ∃ x, x = numL (s.data.toList.take k) := ⟨_, rfl⟩
      have hxl : x < 64 ^ 7 := by rw [hx]; exact numL_lt_of _ 7 _ (by simp; omega) (Nat.le_refl _)
      rw [← hx]
      have HX := Lib.hid hx
      clear hx
      by_cases hz : val1 s[k].toNat = 0
      · have e1 : allD s.data.toList = false := allD_false_of s k hlt hz
        have e2 : rnum s.data.toList = 0 := by unfold rnum; rw [e1]; rfl
        have E1 := Lib.hid e1
        have E2 := Lib.hid e2
        have HZ := Lib.hid hz
        clear e1 e2 hz
        go_wp2_with (go_at_call 72; refine (rvalue_not _ _ (UInt8.toNat_lt _) HZ.out).mono ?_; rintro e w' ⟨rfl, rfl⟩)
        go_ret2
        rw [PN.out, PE.out, E1.out, E2.out]
        exact ⟨rfl, rfl⟩
      · obtain ⟨v, hv⟩ : ∃ v, val1 s[k].toNat = v + 1 := ⟨val1 s[k].toNat - 1, by omega⟩
        have hv64 : v < 64 := by have := val1_le s[k].toNat; omega
        have hor := or6 x v (by omega) hv64
        have HV := Lib.hid hv
        have hnz := Lib.hid hz
        clear hv hz
        go_wp2_with (go_at_call 72; refine (rvalue_dig _ _ _ (UInt8.toNat_lt _) HV.out).mono ?_; rintro e w' ⟨rfl, rfl⟩)
        go_round
        case rel =>
          refine ⟨k + 1, by omega, by go_num, ?_, ?_⟩
          · rw [take_snoc s k hlt, numL_snoc, HV.out, ← HX.out]; simp
          · rw [take_snoc s k hlt, allD_snoc, HA.out]; simp [hnz.out]
        case measure => simp [intOf]; omega
    · have : k = s.size := by omega
      subst this
      go_wp2
      go_ret2
      have HA' := HA.out
      rw [toList_take_size] at HA' ⊢
      rw [PN.out, PE.out]
      unfold rnum
      rw [HA']
      exact ⟨rfl, rfl⟩

theorem rparse_full (s : ByteArray) (w : World) (hm : s.size ≤ maxLen) :
    Calls Tryd.prog 64 #[.string s] w fun e w' => e = .returned (.tuple #[.int .i64 (parN s.data.toList), .int .i64 (parE s.data.toList)]) ∧ w = w' := by
  by_cases h : s.size < 1 ∨ 8 < s.size
  · unfold parN parE
    rw [len_is, if_pos h, if_pos h]
    exact rparse_size s w h hm
  · exact rparse_walk s w (by omega) (by omega)

set_option maxRecDepth 100000 in
theorem rnumber_digits (n k : Int) (w : World) (h : k < 1 ∨ 8 < k) :
    Calls Tryd.prog 48 #[.int .i64 n, .int .i64 k] w fun e w' => e = .returned (.tuple #[.string ⟨#[]⟩, .int .i64 2]) ∧ w = w' := by
  rcases h with h | h
  · go_enter Tryd.func48, Tryd.ntmps48
    go_wp2
    go_ret2
    exact ⟨rfl, rfl⟩
  · have h' : ¬ k < 1 := by omega
    go_enter Tryd.func48, Tryd.ntmps48
    go_wp2
    go_ret2
    exact ⟨rfl, rfl⟩

set_option maxRecDepth 100000 in
theorem rnumber_neg (n : Int) (k : Nat) (w : World) (h1 : 1 ≤ k) (h8 : k ≤ 8) (hn : n < 0) :
    Calls Tryd.prog 48 #[.int .i64 n, .int .i64 k] w fun e w' => e = .returned (.tuple #[.string ⟨#[]⟩, .int .i64 2]) ∧ w = w' := by
  go_enter Tryd.func48, Tryd.ntmps48
  go_wp2
  go_ret2
  exact ⟨rfl, rfl⟩

/-- 64 to the power of k, and what stands of it in the walk. -/
theorem num_pow (k : Nat) (h9 : k ≤ 8) : ∃ M : Nat, 64 ^ k = M ∧ M ≤ 281474976710656 ∧ 1 ≤ M ∧ ∀ q : Nat, q = k → wrap64 ((2 : Int) ^ (6 * q)) = (M : Int) := by
  have e : (64 : Nat) ^ k = 2 ^ (6 * k) := by rw [show (64 : Nat) = 2 ^ 6 by decide, ← Nat.pow_mul]
  obtain ⟨M, hM⟩ : ∃ M, 64 ^ k = M := ⟨_, rfl⟩
  have hM1 : 0 < M := by rw [← hM, e]; exact Nat.two_pow_pos _
  have hM2 : M ≤ 281474976710656 := by rw [← hM]; exact Nat.pow_le_pow_right (n := 64) (by decide) h9
  have e2 : ((2 : Int) ^ (6 * k)) = (M : Int) := by rw [← hM, e]; simp
  refine ⟨M, hM, hM2, hM1, ?_⟩
  rintro q rfl
  rw [e2]
  clear hM e e2
  exact IntWalk.wrap64_in _ ⟨by omega, by omega⟩

set_option maxRecDepth 100000 in
theorem rnumber_big (n k : Nat) (w : World) (h1 : 1 ≤ k) (h8 : k ≤ 8) (hn : 64 ^ k ≤ n) (hm : n ≤ maxLen) :
    Calls Tryd.prog 48 #[.int .i64 n, .int .i64 k] w fun e w' => e = .returned (.tuple #[.string ⟨#[]⟩, .int .i64 2]) ∧ w = w' := by
  unfold maxLen at hm
  obtain ⟨M, hM, hM2, hM1, hpow⟩ := num_pow k h8
  rw [hM] at hn
  clear hM
  go_enter Tryd.func48, Tryd.ntmps48
  go_wp2
  go_ret2
  exact ⟨rfl, rfl⟩

set_option maxRecDepth 100000 in
theorem rnumber_in (n k : Nat) (w : World) (h1 : 1 ≤ k) (h8 : k ≤ 8) (hn : n < 64 ^ k) :
    Calls Tryd.prog 48 #[.int .i64 n, .int .i64 k] w fun e w' => e = .returned (.tuple #[.string (strL (digsL n k)), .int .i64 0]) ∧ Below w.heap.size w w' := by
  obtain ⟨i0, hi, hz0, hz1, hz2⟩ := info_parts Tryd.info5
  obtain ⟨M, hM, hM2, hM1, hpow⟩ := num_pow k h8
  rw [hM] at hn
  clear hM
  have hdec : decide (M ≤ n) = false := by simp; omega
  go_enter Tryd.func48, Tryd.ntmps48
  go_wp2
  go_loopw [6, 7] (fun v i wr => ∃ j : Nat, j ≤ k ∧ i = .int .i64 ((k : Int) - 1 - (j : Int)) ∧ wr.ownsRow w.heap.size 5 1 v j (bytesV ((digsL n k).take j)) ∧ Below w.heap.size w wr) (fun _ i _ => (intOf i + 1).toNat)
  case atStart => exact ⟨0, Nat.zero_le _, by simp, World.ownsRow_nil _ _ _ _, Below.refl _ _⟩
  case round =>
    obtain ⟨j, hj, rfl, hown, hbel⟩ := hrel
    by_cases hlt : j < k
    · obtain ⟨p, hp⟩ : ∃ p : Nat, p = k - 1 - j := ⟨_, rfl⟩
      have hpi : (k : Int) - 1 - (j : Int) = (p : Int) := by omega
      have hp7 : p ≤ 7 := by omega
      rw [hpi]
      obtain ⟨m, hm⟩ : ∃ m, m = n / 2 ^ (6 * p) % 64 := ⟨_, rfl⟩
      have hb : bits BinOp.and IntKind.i64 (↑n / 2 ^ (6 * p)) 63 = (m : Int) := by rw [i64_and63, hm]; simp
      have hm64 : m < 64 := by rw [hm]; exact Nat.mod_lt _ (by decide)
      have hd : digsL n k = digsL n k := rfl
      have htk : (digsL n k).take (j + 1) = (digsL n k).take j ++ [dig m] := by rw [digsL_take n k j hlt, hm, hp]
      have HT := Lib.hid htk
      have HP := Lib.hid hpi
      clear hm hp htk hd hpow hpi
      have ha := alph_get m
      go_wp2_with (at_builtin; refine wpList_append_own _ rfl (.tmp 32) (.tmp 40) 49 rfl w.heap.size 5 i0 (.int .u8 0) 1 1 Tryd.underlying49 hi hz0 hz1 hz2 rfl (by decide) _ j _ rfl (hown.alloc _) ⟨wr.heap.size, 0, none⟩ 1 1 [.int .u8 (dig m).toNat] rfl rfl (cell_one_new _ _ _) (by intro u hu; simp at hu; subst hu; rfl) (by unfold maxLen; omega) (by omega) (by have := hbel.size; simp; omega) ?_)
      intro v' w2 hown2 hgrow _
      have hbel2 := obelow (hbel.alloc hbel.size _) (hown.alloc _) hgrow (by have := hbel.size; simp; omega)
      have hown3 : w2.ownsRow w.heap.size 5 1 v' (j + 1) (bytesV ((digsL n k).take (j + 1))) := by
        rw [HT.out, bytesV_append]
        exact hown2
      clear hown2 hgrow hown hbel ha hb
      go_wp2
      go_roundw
      case rel => exact ⟨j + 1, by omega, by have := HP.out; congr 1; omega, hown3, hbel2⟩
      case measure => have := HP.out; simp [intOf]; try omega
    · have : j = k := by omega
      subst this
      have hneg : (j : Int) - 1 - (j : Int) = -1 := by omega
      rw [hneg]
      rw [List.take_of_length_le (by simp [digsL_length])] at hown
      have hcv := conv_owns (P := Tryd.prog) wr 49 9 5 w.heap.size j _ (digsL n j) hown Tryd.underlying49 Tryd.underlying5 Tryd.underlying9
      clear hpow hneg
      go_wp2
      go_ret2
      exact ⟨rfl, hbel⟩

theorem rnumber_full (n k : Int) (w : World) (hm : n ≤ 9223372036854775807) :
    Calls Tryd.prog 48 #[.int .i64 n, .int .i64 k] w fun e w' => e = .returned (.tuple #[.string (numS n k), .int .i64 (numE n k)]) ∧ Below w.heap.size w w' := by
  unfold numS numE
  by_cases h : k < 1 ∨ 8 < k
  · rw [if_pos (by omega), if_pos (by omega)]
    exact (rnumber_digits n k w h).mono fun e w' ⟨he, hw⟩ => ⟨he, hw ▸ Below.refl _ _⟩
  · obtain ⟨q, rfl⟩ := Int.eq_ofNat_of_zero_le (show 0 ≤ k by omega)
    by_cases hn : n < 0
    · rw [if_pos (.inr (.inr (.inl hn))), if_pos (.inr (.inr (.inl hn)))]
      exact (rnumber_neg n q w (by omega) (by omega) hn).mono fun e w' ⟨he, hw⟩ => ⟨he, hw ▸ Below.refl _ _⟩
    · obtain ⟨m, rfl⟩ := Int.eq_ofNat_of_zero_le (show 0 ≤ n by omega)
      have ep : ((64 : Int) ^ ((q : Int)).toNat) = ((64 ^ q : Nat) : Int) := by simp
      rw [ep]
      by_cases hb : 64 ^ q ≤ m
      · have hb' : ((64 ^ q : Nat) : Int) ≤ (m : Int) := Int.ofNat_le.2 hb
        rw [if_pos (.inr (.inr (.inr hb'))), if_pos (.inr (.inr (.inr hb')))]
        exact (rnumber_big m q w (by omega) (by omega) hb (by unfold maxLen; omega)).mono fun e w' ⟨he, hw⟩ => ⟨he, hw ▸ Below.refl _ _⟩
      · have hb' : ¬ ((64 ^ q : Nat) : Int) ≤ (m : Int) := fun h => hb (Int.ofNat_le.1 h)
        have hno : ¬ ((q : Int) < 1 ∨ 8 < (q : Int) ∨ (m : Int) < 0 ∨ ((64 ^ q : Nat) : Int) ≤ (m : Int)) := by
          rintro (h1 | h1 | h1 | h1)
          · exact h (.inl h1)
          · exact h (.inr h1)
          · exact hn h1
          · exact hb' h1
        rw [if_neg hno, if_neg hno]
        exact rnumber_in m q w (by omega) (by omega) (Nat.lt_of_not_le hb)

end Go.Proofs.YtdmgmfdmakheiaaDoor

namespace Go.Proofs.YtdmgmfdmakheiaaDoor
open Go.ChangeShapes Go.WideShapes Go.ChangeAt Go.RowKit
set_option linter.unusedVariables false
set_option linter.unusedSimpArgs false

theorem fourL_length (l : List UInt8) (i : Nat) (h : 4 * (i + 1) ≤ l.length) : (fourL l i).length = 4 := by unfold fourL; simp; omega
theorem fourL_get (s : ByteArray) (i k : Nat) (hk : k < 4) (h : 4 * (i + 1) ≤ s.size) (h' : 4 * i + k < s.size) : (fourL s.data.toList i)[k]? = some (s[4 * i + k]'h') := by
  unfold fourL
  rw [List.getElem?_drop, List.getElem?_take, if_pos (by omega)]
  have h1 : 4 * i + k < s.data.toList.length := by rw [Array.length_toList]; exact h'
  rw [List.getElem?_eq_getElem h1]; rfl
theorem take_of_get (l : List UInt8) (k : Nat) (c : UInt8) (h : l[k]? = some c) : l.take (k + 1) = l.take k ++ [c] := by
  obtain ⟨hl, e⟩ := List.getElem?_eq_some_iff.1 h
  rw [List.take_succ_eq_append_getElem hl, e]
theorem allD_false_mem (l : List UInt8) (k : Nat) (c : UInt8) (h : l[k]? = some c) (hz : val1 c.toNat = 0) : allD l = false := by
  rw [← List.take_append_drop (k + 1) l, take_of_get l k c h]
  simp [allD, hz]

set_option maxRecDepth 100000 in
theorem rdecode_limit (s : ByteArray) (w : World) (h : 131072 < s.size) (hm : s.size ≤ maxLen) :
    Calls Tryd.prog 58 #[.string s] w fun e w' => e = .returned (.tuple #[.string ⟨#[]⟩, .int .i64 3]) ∧ w = w' := by
  unfold maxLen at hm
  go_enter Tryd.func58, Tryd.ntmps58
  go_wp2
  go_ret2
  exact ⟨rfl, rfl⟩

set_option maxRecDepth 100000 in
theorem rdecode_size (s : ByteArray) (w : World) (h : s.size ≤ 131072) (hz : s.size % 4 ≠ 0) :
    Calls Tryd.prog 58 #[.string s] w fun e w' => e = .returned (.tuple #[.string ⟨#[]⟩, .int .i64 8]) ∧ w = w' := by
  have hz' : ((s.size : Int) % 4 != 0) = true := by simp only [bne_iff_ne, ne_eq]; omega
  clear hz
  go_enter Tryd.func58, Tryd.ntmps58
  go_wp2
  go_ret2
  exact ⟨rfl, rfl⟩

set_option maxRecDepth 100000 in
set_option maxHeartbeats 400000 in
theorem rdecode_any (s : ByteArray) (b : Nat) (w : World) (hb : s.size = 4 * b) (h : s.size ≤ 131072) :
    Calls Tryd.prog 58 #[.string s] w fun e w' => e = .returned (.tuple #[.string (decS s.data.toList), .int .i64 (decE s.data.toList)]) ∧ Below w.heap.size w w' := by
  obtain ⟨i0, hi, hz0, hz1, hz2⟩ := info_parts Tryd.info5
  have hmod : ((s.size : Int) % 4 != 0) = false := by simp only [bne_eq_false_iff_eq]; omega
  have hb' : b ≤ 32768 := by omega
  have HB := Lib.hid hb
  clear hb
  go_enter Tryd.func58, Tryd.ntmps58
  go_wp2
  go_loopw [4, 5] (fun v i wr => ∃ j p : Nat, p = 4 * j ∧ j ≤ b ∧ i = .int .i64 p ∧ wr.ownsRow w.heap.size 5 1 v (3 * j) (bytesV (decL (s.data.toList.take p))) ∧ Below w.heap.size w wr ∧ allD (s.data.toList.take p) = true) (fun _ i _ => s.size - (intOf i).toNat)
  case atStart => exact ⟨0, 0, rfl, Nat.zero_le _, rfl, World.ownsRow_nil _ _ _ _, Below.refl _ _, rfl⟩
  case round =>
    obtain ⟨j, p, hp, hj, rfl, hown, hbel, hall⟩ := hrel
    have HP := Lib.hid hp
    have HA := Lib.hid hall
    clear hall
    by_cases hlt : j < b
    · have hs3 : p + 4 ≤ s.size := by rw [HB.out]; omega
      clear hp
      have hdp : decide (p < s.size) = true := by simp; omega
      obtain ⟨wo, hwo⟩ : ∃ wo : World, wo = wr := ⟨_, rfl⟩
      subst hwo
      go_wp2
      go_loop [6, 25] (fun n i => ∃ k : Nat, k ≤ 4 ∧ i = .int .i64 k ∧ n = .int .i64 (numL ((fourL s.data.toList j).take k)) ∧ allD ((fourL s.data.toList j).take k) = true) (fun _ i => 4 - (intOf i).toNat)
      case atStart => exact ⟨0, Nat.zero_le _, rfl, rfl, rfl⟩
      case round =>
        obtain ⟨k, hk, rfl, rfl, hallk⟩ := hrel
        have HAK := Lib.hid hallk
        clear hallk
        by_cases hlk : k < 4
        · have hpk : p + k < s.size := by omega
          obtain ⟨c, hc⟩ : ∃ c, c = s[p + k]'hpk := ⟨_, rfl⟩
          have hcr : ∀ h, s[p + k]'h = c := fun _ => hc.symm
          have hget : (fourL s.data.toList j)[k]? = some c := by
            have e : 4 * j + k = p + k := by rw [HP.out]
            have := fourL_get s j k hlk (by have := HP.out; omega) (by omega)
            rw [this, hc]
            simp only [e]
          obtain ⟨x, hx⟩ : ∃ x, x = numL ((fourL s.data.toList j).take k) := ⟨_, rfl⟩
          have hxl : x < 64 ^ 4 := by rw [hx]; exact numL_lt_of _ 4 _ (by simp; omega) (Nat.le_refl _)
          rw [← hx]
          have HX := Lib.hid hx
          have HG := Lib.hid hget
          clear hx hget hc
          by_cases hz : val1 c.toNat = 0
          · have hbad : allD (fourL s.data.toList j) = false := allD_false_mem _ k c HG.out hz
            have hall : allD s.data.toList = false := allD_take_false _ (4 * (j + 1)) (by rw [allD_four, hbad]; simp)
            have e1 : decS s.data.toList = ⟨#[]⟩ := by unfold decS; rw [hall]; rfl
            have e2 : decE s.data.toList = 4 := by unfold decE; rw [hall]; rfl
            have hv := rvalue_not c.toNat wo (UInt8.toNat_lt _) hz
            have HV := Lib.hid hv
            have E1 := Lib.hid e1
            have E2 := Lib.hid e2
            clear hz hbad hall e1 e2 hv
            go_wp2_with (go_at_call 72; refine (HV.out).mono ?_; rintro e w' ⟨rfl, rfl⟩)
            go_ret2
            rw [E1.out, E2.out]
            exact ⟨rfl, hbel⟩
          · obtain ⟨v, hv⟩ : ∃ v, val1 c.toNat = v + 1 := ⟨val1 c.toNat - 1, by omega⟩
            have hv64 : v < 64 := by have := val1_le c.toNat; omega
            have hor := or6 x v (by omega) hv64
            have hrv := rvalue_dig c.toNat v wo (UInt8.toNat_lt _) hv
            have HRV := Lib.hid hrv
            have HV := Lib.hid hv
            have hnz := Lib.hid hz
            clear hv hz hrv
            go_wp2_with (go_at_call 72; refine (HRV.out).mono ?_; rintro e w' ⟨rfl, rfl⟩)
            go_round
            case rel =>
              refine ⟨k + 1, by omega, by go_num, ?_, ?_⟩
              · rw [take_of_get _ k c HG.out, numL_snoc, HV.out, ← HX.out]; simp
              · rw [take_of_get _ k c HG.out, allD_snoc, HAK.out]; simp [hnz.out]
            case measure => simp [intOf]; try omega
        · have : k = 4 := by omega
          subst this
          have h4l : (fourL s.data.toList j).length = 4 := fourL_length _ _ (by rw [len_is]; have := HP.out; omega)
          have HAK' := HAK.out
          rw [List.take_of_length_le (by omega)] at HAK' ⊢
          obtain ⟨N, hN⟩ : ∃ N, N = numL (fourL s.data.toList j) := ⟨_, rfl⟩
          have hNlt : N < 16777216 := by rw [hN]; exact numL_lt_of _ 4 _ (by omega) (by decide)
          rw [← hN]
          have hlen : (bytesV (decL (s.data.toList.take p))).length = 3 * j := by
            rw [bytesV_length, decL_length j _ (by rw [List.length_take, len_is]; have := HP.out; omega)]
          have HL := Lib.hid hlen
          have hstep := decL_step j s.data.toList (by rw [len_is]; have := HP.out; omega)
          rw [← hN] at hstep
          have HS := Lib.hid hstep
          have HG := Lib.hid HAK'
          have hnews := Lib.hid (bytesV_byts N hNlt)
          clear hlen hstep hN h4l HAK HAK'
          go_wp2_with (at_builtin; refine wpList_append_own _ rfl (.tmp 44) (.tmp 53) 49 rfl w.heap.size 5 i0 (.int .u8 0) 1 1 Tryd.underlying49 hi hz0 hz1 hz2 rfl (by decide) _ (3 * j) _ rfl (hown.alloc _) ⟨wo.heap.size, 0, none⟩ 3 3 [.int .u8 ((N : Int) / 65536), .int .u8 ((N : Int) / 256 % 256), .int .u8 ((N : Int) % 256)] rfl rfl (cells_new _ _ _ _ rfl) (by intro u hu; simp at hu; rcases hu with rfl | rfl | rfl <;> rfl) (by unfold maxLen; omega) (by omega) (by have := hbel.size; simp; omega) ?_)
          intro v' w2 hown2 hgrow _
          have hbel2 := obelow (hbel.alloc hbel.size _) (hown.alloc _) hgrow (by have := hbel.size; simp; omega)
          have hown3 : w2.ownsRow w.heap.size 5 1 v' (3 * (j + 1)) (bytesV (decL (s.data.toList.take (4 * (j + 1))))) := by
            rw [HS.out, bytesV_append, hnews.out, ← HP.out]
            exact hown2
          clear hown2 hgrow hown hbel
          go_wp2
          go_roundw
          case rel => exact ⟨j + 1, p + 4, by rw [HP.out]; omega, by omega, by go_num, by rw [show p + 4 = 4 * (j + 1) by rw [HP.out]; omega]; exact hown3, hbel2, by rw [show p + 4 = 4 * (j + 1) by rw [HP.out]; omega, allD_four, ← HP.out, HA.out, HG.out]; rfl⟩
          case measure => simp [intOf]; omega
    · have : j = b := by omega
      subst this
      have hfull : s.data.toList.take p = s.data.toList := by
        rw [HP.out, ← HB.out]; exact toList_take_size s
      have hps : ¬ p < s.size := by rw [HP.out, HB.out]; omega
      have HA' := HA.out
      rw [hfull] at hown HA'
      have hcv := conv_owns (P := Tryd.prog) wr 49 9 5 w.heap.size (3 * j) _ (decL s.data.toList) hown Tryd.underlying49 Tryd.underlying5 Tryd.underlying9
      have e1 : decS s.data.toList = strL (decL s.data.toList) := by unfold decS; rw [HA']; rfl
      have e2 : decE s.data.toList = 0 := by unfold decE; rw [HA']; rfl
      have E1 := Lib.hid e1
      have E2 := Lib.hid e2
      clear hfull hp HA' e1 e2
      go_wp2
      go_ret2
      rw [E1.out, E2.out]
      exact ⟨rfl, hbel⟩

theorem rdecode_full (s : ByteArray) (w : World) (hm : s.size ≤ maxLen) :
    Calls Tryd.prog 58 #[.string s] w fun e w' => e = .returned (.tuple #[.string (decFS s.data.toList), .int .i64 (decFE s.data.toList)]) ∧ Below w.heap.size w w' := by
  unfold decFS decFE
  rw [len_is]
  by_cases h : 131072 < s.size
  · rw [if_pos (.inl h), if_pos h]
    exact (rdecode_limit s w h hm).mono fun e w' ⟨he, hw⟩ => ⟨he, hw ▸ Below.refl _ _⟩
  · by_cases h3 : s.size % 4 ≠ 0
    · rw [if_pos (.inr h3), if_neg h, if_pos h3]
      exact (rdecode_size s w (by omega) h3).mono fun e w' ⟨he, hw⟩ => ⟨he, hw ▸ Below.refl _ _⟩
    · rw [if_neg (by omega), if_neg h, if_neg h3]
      exact rdecode_any s (s.size / 4) w (by omega) (by omega)

end Go.Proofs.YtdmgmfdmakheiaaDoor
