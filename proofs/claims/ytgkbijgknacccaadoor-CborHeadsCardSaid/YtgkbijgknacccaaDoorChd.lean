/- The walk of the statement CborHeads. -/
import Derived.Test.YtgkbijgknacccaaDoorCaw
import Derived.Test.YtgkbijgknacccaaDoorCrv
namespace Go.Proofs.YtgkbijgknacccaaDoor
open Go Go.ChangeShapes Go.WideShapes Go.ChangeAt Go.RowKit
set_option linter.unusedVariables false
set_option linter.unusedSimpArgs false

set_option maxHeartbeats 6400000 in
set_option maxRecDepth 100000 in
theorem heads7_walk (major n0 bs : Int) (w : World) (h1 : -9223372036854775808 ≤ major) (h2 : major ≤ 9223372036854775807) (h3 : 0 ≤ n0) (h4 : n0 ≤ 18446744073709551615) (h5 : 0 ≤ bs) (h6 : bs ≤ 255) (hT : Utab w) :
    Calls Tryd.prog 7 #[.int .i64 major, .int .u64 n0, .int .u8 bs] w fun e w' => e = .returned (.bool true) ∧ Below w.heap.size w w' := by
  have AW := Lib.hid (fun (wx : World) (hb : Below w.heap.size w wx) => awake7_any wx (hT.below hb))
  obtain ⟨n, rfl⟩ : ∃ n : Nat, n0 = (n : Int) := ⟨n0.toNat, by omega⟩
  obtain ⟨b, rfl⟩ : ∃ b : Nat, bs = (b : Int) := ⟨bs.toNat, by omega⟩
  obtain ⟨mm, hmm⟩ : ∃ mm : Nat, major % 8 = (mm : Int) := ⟨(major % 8).toNat, by omega⟩
  have hm8 : mm < 8 := by omega
  have MO := Lib.hid (fun wx => mod_any major 8 wx (by decide) (by decide) h1 h2)
  rw [show ((8 : Nat) : Int) = 8 from rfl, hmm] at MO
  obtain ⟨c, hc⟩ : ∃ c, c = b % 64 := ⟨_, rfl⟩
  have hbc : (b : Int).tmod 64 = (c : Int) := by rw [Int.tmod_eq_emod_of_nonneg (by omega)]; omega
  have hbc2 : (b : Int) % 64 = (c : Int) := by omega
  have hc64 : c < 64 := by omega
  have hc64i : (c : Int) ≤ 64 := by omega
  have hcz : (0 : Int) ≤ (c : Int) := by omega
  have hcw : IntKind.u8.wrap (c : Int) = (c : Int) := by rw [IntKind.wrap_u8]; omega
  obtain ⟨k, hk⟩ : ∃ k, k = n / 2 ^ c := ⟨_, rfl⟩
  have hki : (n : Int) / 2 ^ c = (k : Int) := by rw [hk]; push_cast; rfl
  have hkn : k ≤ n := by rw [hk]; exact Nat.div_le_self _ _
  have hct : (c : Int).toNat = c := Int.toNat_natCast c
  clear hmm hk hc
  have hk64 : k < 18446744073709551616 := by omega
  have H1 := Lib.hid (fun (wx : World) => chead_any (mm : Int) k wx hk64)
  have e1 : chS (mm : Int) k = bC (headL mm k) := by unfold chS; rw [if_pos (by omega), Int.toNat_natCast]
  have e2 : chE (mm : Int) = 0 := by unfold chE; rw [if_pos (by omega)]
  rw [e1, e2] at H1
  have H2 := Lib.hid (fun (wx : World) => chead_any major n wx (by omega))
  have H3 := Lib.hid (fun (wx : World) => rHead_any major n wx (by omega))
  obtain ⟨sx, hsx⟩ : ∃ s, s = chS major n := ⟨_, rfl⟩
  obtain ⟨ex, hex⟩ : ∃ e, e = chE major := ⟨_, rfl⟩
  rw [← hsx, ← hex] at H2 H3
  obtain ⟨S, hS⟩ : ∃ S, S = bC (headL mm k) := ⟨_, rfl⟩
  rw [← hS] at H1
  have hSL : S.data.toList = headL mm k := by rw [hS, bC_data]
  have hSS : S.size = headK k + 1 := by rw [hS, bC_size, headL_length]
  have HSL := Lib.hid hSL
  have HSS := Lib.hid hSS
  have HGET : Hid (∀ (p : Nat) (h : p < S.size), S.data.toList[p]? = some (S[p]'h)) := Lib.hid fun p h => by rw [List.getElem?_eq_getElem (by rw [Array.length_toList]; exact h)]; rfl
  have es1 : (sx.toList != sx.toList) = false := bne_self_eq_false _
  have es2 : (sx.toList == sx.toList) = true := beq_self_eq_true _
  have ee1 : (ex != ex) = false := bne_self_eq_false _
  have ee2 : (ex == ex) = true := beq_self_eq_true _
  have em1 : ((mm : Int) != (mm : Int)) = false := bne_self_eq_false _
  have em2 : ((mm : Int) == (mm : Int)) = true := beq_self_eq_true _
  clear hS hSL hSS hsx hex e1 e2 hT h1 h2
  go_enter Tryd.func7, Tryd.ntmps7
  go_upto_region 2 with (go_at_call 17; (with_reducible refine (MO.out _).mono ?_); rintro e w1 ⟨rfl, rfl⟩)
  go_upto_region 4 with (go_at_call 22; (with_reducible refine (H1.out _).mono ?_); rintro e w2 ⟨rfl, hb2⟩)
  go_upto_region 5 with (go_at_call 22; (with_reducible refine (H2.out _).mono ?_); rintro e w3 ⟨rfl, hb3⟩)
  go_upto_region 6 with (go_at_call 23; (with_reducible refine (H3.out _).mono ?_); rintro e w4 ⟨rfl, hb4⟩)
  have HB := Lib.hid ((hb2.trans (hb3.mono hb2.size)).trans (hb4.mono (Nat.le_trans hb2.size hb3.size)))
  clear hb2 hb3 hb4 hki hbc hbc2 hcw hct hc64 hc64i hcz
  by_cases g1 : k < 24
  · have t4294967296 : ¬ (4294967296 : Int) ≤ (k : Int) := by omega
    have u4294967296 : (k : Int) < 4294967296 := by omega
    have t65536 : ¬ (65536 : Int) ≤ (k : Int) := by omega
    have u65536 : (k : Int) < 65536 := by omega
    have t256 : ¬ (256 : Int) ≤ (k : Int) := by omega
    have u256 : (k : Int) < 256 := by omega
    have t24 : ¬ (24 : Int) ≤ (k : Int) := by omega
    have u24 : (k : Int) < 24 := by omega
    have hK : headK k = 0 := by unfold headK; (repeat' split) <;> omega
    have hV : headV k = k := by unfold headV; (repeat' split) <;> omega
    have hSs : S.size = 1 := by rw [HSS.out, hK]
    have tl : ((S.size : Int) != 1) = false := by rw [hSs]; rfl
    have tl2 : ((S.size : Int) == 1) = true := by rw [hSs]; rfl
    have hS0 : 0 < S.size := by omega
    have hS0i : (0 : Int) < (S.size : Int) := by omega
    obtain ⟨c0, hc0⟩ : ∃ c0, c0 = S[0]'hS0 := ⟨_, rfl⟩
    have hc0' := hc0.symm
    have hcv : c0.toNat = 32 * mm + headV k := by
      have h1 := HGET.out 0 hS0
      rw [HSL.out] at h1
      unfold headL at h1
      rw [List.getElem?_cons_zero, ← hc0] at h1
      have h2 := congrArg UInt8.toNat (Option.some.inj h1)
      rw [UInt8.toNat_ofNat'] at h2
      have := headV_lt k
      omega
    have hmi : (c0.toNat : Int) / 32 = (mm : Int) := by have := headV_lt k; omega
    have ha := and31 c0
    obtain ⟨v0, hv0⟩ : ∃ v0, v0 = c0.toNat % 32 := ⟨_, rfl⟩
    rw [← hv0] at ha
    have hv0k : v0 = headV k := by have := headV_lt k; omega
    have hwm : IntKind.i64.wrap (mm : Int) = (mm : Int) := IntWalk.i64_in _ (by omega)
    have hwv : IntKind.u64.wrap (v0 : Int) = (v0 : Int) := by rw [IntKind.wrap_u64]; have := headV_lt k; omega
    have HC := Lib.hid (And.intro hcv (And.intro hK hSs))
    clear hcv hv0 hc0 hK hSs
    have hvk : v0 = k := by omega
    clear hv0k hV
    subst hvk
    have hkk : ((v0 : Int) == (v0 : Int)) = true := beq_self_eq_true _
    go_wp2_with (go_at_call 9; (with_reducible refine (AW.out _ HB.out).mono ?_); rintro e w9 ⟨rfl, hb9⟩)
    go_ret
    exact ⟨rfl, HB.out.trans (hb9.mono HB.out.size)⟩
  by_cases g2 : k < 256
  · have t4294967296 : ¬ (4294967296 : Int) ≤ (k : Int) := by omega
    have u4294967296 : (k : Int) < 4294967296 := by omega
    have t65536 : ¬ (65536 : Int) ≤ (k : Int) := by omega
    have u65536 : (k : Int) < 65536 := by omega
    have t256 : ¬ (256 : Int) ≤ (k : Int) := by omega
    have u256 : (k : Int) < 256 := by omega
    have t24 : (24 : Int) ≤ (k : Int) := by omega
    have hK : headK k = 1 := by unfold headK; (repeat' split) <;> omega
    have hV : headV k = 24 := by unfold headV; (repeat' split) <;> omega
    have hSs : S.size = 2 := by rw [HSS.out, hK]
    have tl : ((S.size : Int) != 2) = false := by rw [hSs]; rfl
    have tl2 : ((S.size : Int) == 2) = true := by rw [hSs]; rfl
    have hS0 : 0 < S.size := by omega
    have hS0i : (0 : Int) < (S.size : Int) := by omega
    obtain ⟨c0, hc0⟩ : ∃ c0, c0 = S[0]'hS0 := ⟨_, rfl⟩
    have hc0' := hc0.symm
    have hcv : c0.toNat = 32 * mm + headV k := by
      have h1 := HGET.out 0 hS0
      rw [HSL.out] at h1
      unfold headL at h1
      rw [List.getElem?_cons_zero, ← hc0] at h1
      have h2 := congrArg UInt8.toNat (Option.some.inj h1)
      rw [UInt8.toNat_ofNat'] at h2
      have := headV_lt k
      omega
    have hmi : (c0.toNat : Int) / 32 = (mm : Int) := by have := headV_lt k; omega
    have ha := and31 c0
    obtain ⟨v0, hv0⟩ : ∃ v0, v0 = c0.toNat % 32 := ⟨_, rfl⟩
    rw [← hv0] at ha
    have hv0k : v0 = headV k := by have := headV_lt k; omega
    have hwm : IntKind.i64.wrap (mm : Int) = (mm : Int) := IntWalk.i64_in _ (by omega)
    have hwv : IntKind.u64.wrap (v0 : Int) = (v0 : Int) := by rw [IntKind.wrap_u64]; have := headV_lt k; omega
    have HC := Lib.hid (And.intro hcv (And.intro hK hSs))
    clear hcv hv0 hc0 hK hSs
    clear hv0k
    go_upto_region 21 with fail
    go_loopw [16, 17] (fun vv vi wr => ∃ (j : Nat) (N : Int), vi = .int .i64 ((j : Int) + 1) ∧ j ≤ 1 ∧ vv = .int .u64 N ∧ N = (bigV ((bigL k 1).take j) : Int) ∧ Below w.heap.size w wr) (fun _ vi _ => 2 - (intOf vi).toNat)
    case atStart => exact ⟨0, 0, rfl, by decide, rfl, by simp [bigV], HB.out⟩
    case round =>
      obtain ⟨j, N, rfl, hj, rfl, hN, hBr⟩ := hrel
      have HBr := Lib.hid hBr
      by_cases hjk : j < 1
      · have hjk' : (j : Int) + 1 < 2 := by omega
        obtain ⟨pj, hpj'⟩ : ∃ pj, pj = j + 1 := ⟨_, rfl⟩
        have e2 : (j : Int) + 1 = (pj : Int) := by omega
        rw [e2] at hjk' ⊢
        have hpjn : pj < S.size := by have := HC.out.2.2; omega
        have hpji : (pj : Int) < (S.size : Int) := by omega
        have hpjz : (0 : Int) ≤ (pj : Int) := by omega
        have gj := HGET.out pj hpjn
        obtain ⟨cj, hcj⟩ : ∃ cj, cj = S[pj]'hpjn := ⟨_, rfl⟩
        rw [← hcj, HSL.out] at gj
        unfold headL at gj
        rw [hpj', List.getElem?_cons_succ, HC.out.2.1] at gj
        have hcj' := hcj.symm
        have hb1 := bigV_lt ((bigL k 1).take j)
        have hlj : ((bigL k 1).take j).length = j := by rw [List.length_take, bigL_length]; omega
        rw [hlj] at hb1
        have hb2 : (256 : Nat) ^ j ≤ 256 ^ 7 := Nat.pow_le_pow_right (by decide) (by omega)
        have h7 : (256 : Nat) ^ 7 = 72057594037927936 := by decide
        have hw0 : IntKind.u64.wrap (cj.toNat : Int) = (cj.toNat : Int) := by rw [IntKind.wrap_u64]; have := cj.toNat_lt; omega
        have hw1 : IntKind.u64.wrap (N * 256) = N * 256 := by rw [IntKind.wrap_u64]; omega
        have hw2 : bits BinOp.or IntKind.u64 (N * 256) (cj.toNat : Int) = (bigV ((bigL k 1).take (j + 1)) : Int) := by
          rw [hN, or_low _ _ (by omega) cj.toNat_lt, List.take_add_one, gj]
          show _ = ((bigV (_ ++ [cj]) : Nat) : Int)
          rw [bigV_snoc]
        obtain ⟨N2, hN2⟩ : ∃ N2 : Int, N2 = (bigV ((bigL k 1).take (j + 1)) : Int) := ⟨_, rfl⟩
        rw [← hN2] at hw2
        have hwp : IntKind.i64.wrap ((pj : Int) + 1) = (pj : Int) + 1 := IntWalk.i64_in _ (by omega)
        have HN2 := Lib.hid hN2
        have HP := Lib.hid hpj'
        clear hb1 hlj hb2 h7 hN hN2 gj hcj hBr hpj' e2
        go_wp2
        go_roundw
        case rel => exact ⟨j + 1, N2, by first | (rw [HP.out]; done) | (rw [HP.out]; go_num), by omega, rfl, HN2.out, HBr.out⟩
        case measure => simp [intOf] <;> omega
      · have hjk' : ¬ (j : Int) + 1 < 2 := by omega
        have hje : j = 1 := by omega
        have hNk : N = (k : Int) := by
          rw [hN, hje, List.take_of_length_le (by rw [bigL_length]; omega), bigL_back (by simp only [Nat.reducePow]; omega)]
        subst hNk
        have hkk : ((k : Int) == (k : Int)) = true := beq_self_eq_true _
        clear hN hje
        go_wp2_with (go_at_call 9; (with_reducible refine (AW.out _ HBr.out).mono ?_); rintro e w9 ⟨rfl, hb9⟩)
        go_ret
        exact ⟨rfl, HBr.out.trans (hb9.mono HBr.out.size)⟩
  by_cases g3 : k < 65536
  · have t4294967296 : ¬ (4294967296 : Int) ≤ (k : Int) := by omega
    have u4294967296 : (k : Int) < 4294967296 := by omega
    have t65536 : ¬ (65536 : Int) ≤ (k : Int) := by omega
    have u65536 : (k : Int) < 65536 := by omega
    have t256 : (256 : Int) ≤ (k : Int) := by omega
    have t24 : (24 : Int) ≤ (k : Int) := by omega
    have hK : headK k = 2 := by unfold headK; (repeat' split) <;> omega
    have hV : headV k = 25 := by unfold headV; (repeat' split) <;> omega
    have hSs : S.size = 3 := by rw [HSS.out, hK]
    have tl : ((S.size : Int) != 3) = false := by rw [hSs]; rfl
    have tl2 : ((S.size : Int) == 3) = true := by rw [hSs]; rfl
    have hS0 : 0 < S.size := by omega
    have hS0i : (0 : Int) < (S.size : Int) := by omega
    obtain ⟨c0, hc0⟩ : ∃ c0, c0 = S[0]'hS0 := ⟨_, rfl⟩
    have hc0' := hc0.symm
    have hcv : c0.toNat = 32 * mm + headV k := by
      have h1 := HGET.out 0 hS0
      rw [HSL.out] at h1
      unfold headL at h1
      rw [List.getElem?_cons_zero, ← hc0] at h1
      have h2 := congrArg UInt8.toNat (Option.some.inj h1)
      rw [UInt8.toNat_ofNat'] at h2
      have := headV_lt k
      omega
    have hmi : (c0.toNat : Int) / 32 = (mm : Int) := by have := headV_lt k; omega
    have ha := and31 c0
    obtain ⟨v0, hv0⟩ : ∃ v0, v0 = c0.toNat % 32 := ⟨_, rfl⟩
    rw [← hv0] at ha
    have hv0k : v0 = headV k := by have := headV_lt k; omega
    have hwm : IntKind.i64.wrap (mm : Int) = (mm : Int) := IntWalk.i64_in _ (by omega)
    have hwv : IntKind.u64.wrap (v0 : Int) = (v0 : Int) := by rw [IntKind.wrap_u64]; have := headV_lt k; omega
    have HC := Lib.hid (And.intro hcv (And.intro hK hSs))
    clear hcv hv0 hc0 hK hSs
    clear hv0k
    go_upto_region 21 with fail
    go_loopw [16, 17] (fun vv vi wr => ∃ (j : Nat) (N : Int), vi = .int .i64 ((j : Int) + 1) ∧ j ≤ 2 ∧ vv = .int .u64 N ∧ N = (bigV ((bigL k 2).take j) : Int) ∧ Below w.heap.size w wr) (fun _ vi _ => 3 - (intOf vi).toNat)
    case atStart => exact ⟨0, 0, rfl, by decide, rfl, by simp [bigV], HB.out⟩
    case round =>
      obtain ⟨j, N, rfl, hj, rfl, hN, hBr⟩ := hrel
      have HBr := Lib.hid hBr
      by_cases hjk : j < 2
      · have hjk' : (j : Int) + 1 < 3 := by omega
        obtain ⟨pj, hpj'⟩ : ∃ pj, pj = j + 1 := ⟨_, rfl⟩
        have e2 : (j : Int) + 1 = (pj : Int) := by omega
        rw [e2] at hjk' ⊢
        have hpjn : pj < S.size := by have := HC.out.2.2; omega
        have hpji : (pj : Int) < (S.size : Int) := by omega
        have hpjz : (0 : Int) ≤ (pj : Int) := by omega
        have gj := HGET.out pj hpjn
        obtain ⟨cj, hcj⟩ : ∃ cj, cj = S[pj]'hpjn := ⟨_, rfl⟩
        rw [← hcj, HSL.out] at gj
        unfold headL at gj
        rw [hpj', List.getElem?_cons_succ, HC.out.2.1] at gj
        have hcj' := hcj.symm
        have hb1 := bigV_lt ((bigL k 2).take j)
        have hlj : ((bigL k 2).take j).length = j := by rw [List.length_take, bigL_length]; omega
        rw [hlj] at hb1
        have hb2 : (256 : Nat) ^ j ≤ 256 ^ 7 := Nat.pow_le_pow_right (by decide) (by omega)
        have h7 : (256 : Nat) ^ 7 = 72057594037927936 := by decide
        have hw0 : IntKind.u64.wrap (cj.toNat : Int) = (cj.toNat : Int) := by rw [IntKind.wrap_u64]; have := cj.toNat_lt; omega
        have hw1 : IntKind.u64.wrap (N * 256) = N * 256 := by rw [IntKind.wrap_u64]; omega
        have hw2 : bits BinOp.or IntKind.u64 (N * 256) (cj.toNat : Int) = (bigV ((bigL k 2).take (j + 1)) : Int) := by
          rw [hN, or_low _ _ (by omega) cj.toNat_lt, List.take_add_one, gj]
          show _ = ((bigV (_ ++ [cj]) : Nat) : Int)
          rw [bigV_snoc]
        obtain ⟨N2, hN2⟩ : ∃ N2 : Int, N2 = (bigV ((bigL k 2).take (j + 1)) : Int) := ⟨_, rfl⟩
        rw [← hN2] at hw2
        have hwp : IntKind.i64.wrap ((pj : Int) + 1) = (pj : Int) + 1 := IntWalk.i64_in _ (by omega)
        have HN2 := Lib.hid hN2
        have HP := Lib.hid hpj'
        clear hb1 hlj hb2 h7 hN hN2 gj hcj hBr hpj' e2
        go_wp2
        go_roundw
        case rel => exact ⟨j + 1, N2, by first | (rw [HP.out]; done) | (rw [HP.out]; go_num), by omega, rfl, HN2.out, HBr.out⟩
        case measure => simp [intOf] <;> omega
      · have hjk' : ¬ (j : Int) + 1 < 3 := by omega
        have hje : j = 2 := by omega
        have hNk : N = (k : Int) := by
          rw [hN, hje, List.take_of_length_le (by rw [bigL_length]; omega), bigL_back (by simp only [Nat.reducePow]; omega)]
        subst hNk
        have hkk : ((k : Int) == (k : Int)) = true := beq_self_eq_true _
        clear hN hje
        go_wp2_with (go_at_call 9; (with_reducible refine (AW.out _ HBr.out).mono ?_); rintro e w9 ⟨rfl, hb9⟩)
        go_ret
        exact ⟨rfl, HBr.out.trans (hb9.mono HBr.out.size)⟩
  by_cases g4 : k < 4294967296
  · have t4294967296 : ¬ (4294967296 : Int) ≤ (k : Int) := by omega
    have u4294967296 : (k : Int) < 4294967296 := by omega
    have t65536 : (65536 : Int) ≤ (k : Int) := by omega
    have t256 : (256 : Int) ≤ (k : Int) := by omega
    have t24 : (24 : Int) ≤ (k : Int) := by omega
    have hK : headK k = 4 := by unfold headK; (repeat' split) <;> omega
    have hV : headV k = 26 := by unfold headV; (repeat' split) <;> omega
    have hSs : S.size = 5 := by rw [HSS.out, hK]
    have tl : ((S.size : Int) != 5) = false := by rw [hSs]; rfl
    have tl2 : ((S.size : Int) == 5) = true := by rw [hSs]; rfl
    have hS0 : 0 < S.size := by omega
    have hS0i : (0 : Int) < (S.size : Int) := by omega
    obtain ⟨c0, hc0⟩ : ∃ c0, c0 = S[0]'hS0 := ⟨_, rfl⟩
    have hc0' := hc0.symm
    have hcv : c0.toNat = 32 * mm + headV k := by
      have h1 := HGET.out 0 hS0
      rw [HSL.out] at h1
      unfold headL at h1
      rw [List.getElem?_cons_zero, ← hc0] at h1
      have h2 := congrArg UInt8.toNat (Option.some.inj h1)
      rw [UInt8.toNat_ofNat'] at h2
      have := headV_lt k
      omega
    have hmi : (c0.toNat : Int) / 32 = (mm : Int) := by have := headV_lt k; omega
    have ha := and31 c0
    obtain ⟨v0, hv0⟩ : ∃ v0, v0 = c0.toNat % 32 := ⟨_, rfl⟩
    rw [← hv0] at ha
    have hv0k : v0 = headV k := by have := headV_lt k; omega
    have hwm : IntKind.i64.wrap (mm : Int) = (mm : Int) := IntWalk.i64_in _ (by omega)
    have hwv : IntKind.u64.wrap (v0 : Int) = (v0 : Int) := by rw [IntKind.wrap_u64]; have := headV_lt k; omega
    have HC := Lib.hid (And.intro hcv (And.intro hK hSs))
    clear hcv hv0 hc0 hK hSs
    clear hv0k
    go_upto_region 21 with fail
    go_loopw [16, 17] (fun vv vi wr => ∃ (j : Nat) (N : Int), vi = .int .i64 ((j : Int) + 1) ∧ j ≤ 4 ∧ vv = .int .u64 N ∧ N = (bigV ((bigL k 4).take j) : Int) ∧ Below w.heap.size w wr) (fun _ vi _ => 5 - (intOf vi).toNat)
    case atStart => exact ⟨0, 0, rfl, by decide, rfl, by simp [bigV], HB.out⟩
    case round =>
      obtain ⟨j, N, rfl, hj, rfl, hN, hBr⟩ := hrel
      have HBr := Lib.hid hBr
      by_cases hjk : j < 4
      · have hjk' : (j : Int) + 1 < 5 := by omega
        obtain ⟨pj, hpj'⟩ : ∃ pj, pj = j + 1 := ⟨_, rfl⟩
        have e2 : (j : Int) + 1 = (pj : Int) := by omega
        rw [e2] at hjk' ⊢
        have hpjn : pj < S.size := by have := HC.out.2.2; omega
        have hpji : (pj : Int) < (S.size : Int) := by omega
        have hpjz : (0 : Int) ≤ (pj : Int) := by omega
        have gj := HGET.out pj hpjn
        obtain ⟨cj, hcj⟩ : ∃ cj, cj = S[pj]'hpjn := ⟨_, rfl⟩
        rw [← hcj, HSL.out] at gj
        unfold headL at gj
        rw [hpj', List.getElem?_cons_succ, HC.out.2.1] at gj
        have hcj' := hcj.symm
        have hb1 := bigV_lt ((bigL k 4).take j)
        have hlj : ((bigL k 4).take j).length = j := by rw [List.length_take, bigL_length]; omega
        rw [hlj] at hb1
        have hb2 : (256 : Nat) ^ j ≤ 256 ^ 7 := Nat.pow_le_pow_right (by decide) (by omega)
        have h7 : (256 : Nat) ^ 7 = 72057594037927936 := by decide
        have hw0 : IntKind.u64.wrap (cj.toNat : Int) = (cj.toNat : Int) := by rw [IntKind.wrap_u64]; have := cj.toNat_lt; omega
        have hw1 : IntKind.u64.wrap (N * 256) = N * 256 := by rw [IntKind.wrap_u64]; omega
        have hw2 : bits BinOp.or IntKind.u64 (N * 256) (cj.toNat : Int) = (bigV ((bigL k 4).take (j + 1)) : Int) := by
          rw [hN, or_low _ _ (by omega) cj.toNat_lt, List.take_add_one, gj]
          show _ = ((bigV (_ ++ [cj]) : Nat) : Int)
          rw [bigV_snoc]
        obtain ⟨N2, hN2⟩ : ∃ N2 : Int, N2 = (bigV ((bigL k 4).take (j + 1)) : Int) := ⟨_, rfl⟩
        rw [← hN2] at hw2
        have hwp : IntKind.i64.wrap ((pj : Int) + 1) = (pj : Int) + 1 := IntWalk.i64_in _ (by omega)
        have HN2 := Lib.hid hN2
        have HP := Lib.hid hpj'
        clear hb1 hlj hb2 h7 hN hN2 gj hcj hBr hpj' e2
        go_wp2
        go_roundw
        case rel => exact ⟨j + 1, N2, by first | (rw [HP.out]; done) | (rw [HP.out]; go_num), by omega, rfl, HN2.out, HBr.out⟩
        case measure => simp [intOf] <;> omega
      · have hjk' : ¬ (j : Int) + 1 < 5 := by omega
        have hje : j = 4 := by omega
        have hNk : N = (k : Int) := by
          rw [hN, hje, List.take_of_length_le (by rw [bigL_length]; omega), bigL_back (by simp only [Nat.reducePow]; omega)]
        subst hNk
        have hkk : ((k : Int) == (k : Int)) = true := beq_self_eq_true _
        clear hN hje
        go_wp2_with (go_at_call 9; (with_reducible refine (AW.out _ HBr.out).mono ?_); rintro e w9 ⟨rfl, hb9⟩)
        go_ret
        exact ⟨rfl, HBr.out.trans (hb9.mono HBr.out.size)⟩
  have t4294967296 : (4294967296 : Int) ≤ (k : Int) := by omega
  have t65536 : (65536 : Int) ≤ (k : Int) := by omega
  have t256 : (256 : Int) ≤ (k : Int) := by omega
  have t24 : (24 : Int) ≤ (k : Int) := by omega
  have hK : headK k = 8 := by unfold headK; (repeat' split) <;> omega
  have hV : headV k = 27 := by unfold headV; (repeat' split) <;> omega
  have hSs : S.size = 9 := by rw [HSS.out, hK]
  have tl : ((S.size : Int) != 9) = false := by rw [hSs]; rfl
  have tl2 : ((S.size : Int) == 9) = true := by rw [hSs]; rfl
  have hS0 : 0 < S.size := by omega
  have hS0i : (0 : Int) < (S.size : Int) := by omega
  obtain ⟨c0, hc0⟩ : ∃ c0, c0 = S[0]'hS0 := ⟨_, rfl⟩
  have hc0' := hc0.symm
  have hcv : c0.toNat = 32 * mm + headV k := by
    have h1 := HGET.out 0 hS0
    rw [HSL.out] at h1
    unfold headL at h1
    rw [List.getElem?_cons_zero, ← hc0] at h1
    have h2 := congrArg UInt8.toNat (Option.some.inj h1)
    rw [UInt8.toNat_ofNat'] at h2
    have := headV_lt k
    omega
  have hmi : (c0.toNat : Int) / 32 = (mm : Int) := by have := headV_lt k; omega
  have ha := and31 c0
  obtain ⟨v0, hv0⟩ : ∃ v0, v0 = c0.toNat % 32 := ⟨_, rfl⟩
  rw [← hv0] at ha
  have hv0k : v0 = headV k := by have := headV_lt k; omega
  have hwm : IntKind.i64.wrap (mm : Int) = (mm : Int) := IntWalk.i64_in _ (by omega)
  have hwv : IntKind.u64.wrap (v0 : Int) = (v0 : Int) := by rw [IntKind.wrap_u64]; have := headV_lt k; omega
  have HC := Lib.hid (And.intro hcv (And.intro hK hSs))
  clear hcv hv0 hc0 hK hSs
  clear hv0k
  go_upto_region 21 with fail
  go_loopw [16, 17] (fun vv vi wr => ∃ (j : Nat) (N : Int), vi = .int .i64 ((j : Int) + 1) ∧ j ≤ 8 ∧ vv = .int .u64 N ∧ N = (bigV ((bigL k 8).take j) : Int) ∧ Below w.heap.size w wr) (fun _ vi _ => 9 - (intOf vi).toNat)
  case atStart => exact ⟨0, 0, rfl, by decide, rfl, by simp [bigV], HB.out⟩
  case round =>
    obtain ⟨j, N, rfl, hj, rfl, hN, hBr⟩ := hrel
    have HBr := Lib.hid hBr
    by_cases hjk : j < 8
    · have hjk' : (j : Int) + 1 < 9 := by omega
      obtain ⟨pj, hpj'⟩ : ∃ pj, pj = j + 1 := ⟨_, rfl⟩
      have e2 : (j : Int) + 1 = (pj : Int) := by omega
      rw [e2] at hjk' ⊢
      have hpjn : pj < S.size := by have := HC.out.2.2; omega
      have hpji : (pj : Int) < (S.size : Int) := by omega
      have hpjz : (0 : Int) ≤ (pj : Int) := by omega
      have gj := HGET.out pj hpjn
      obtain ⟨cj, hcj⟩ : ∃ cj, cj = S[pj]'hpjn := ⟨_, rfl⟩
      rw [← hcj, HSL.out] at gj
      unfold headL at gj
      rw [hpj', List.getElem?_cons_succ, HC.out.2.1] at gj
      have hcj' := hcj.symm
      have hb1 := bigV_lt ((bigL k 8).take j)
      have hlj : ((bigL k 8).take j).length = j := by rw [List.length_take, bigL_length]; omega
      rw [hlj] at hb1
      have hb2 : (256 : Nat) ^ j ≤ 256 ^ 7 := Nat.pow_le_pow_right (by decide) (by omega)
      have h7 : (256 : Nat) ^ 7 = 72057594037927936 := by decide
      have hw0 : IntKind.u64.wrap (cj.toNat : Int) = (cj.toNat : Int) := by rw [IntKind.wrap_u64]; have := cj.toNat_lt; omega
      have hw1 : IntKind.u64.wrap (N * 256) = N * 256 := by rw [IntKind.wrap_u64]; omega
      have hw2 : bits BinOp.or IntKind.u64 (N * 256) (cj.toNat : Int) = (bigV ((bigL k 8).take (j + 1)) : Int) := by
        rw [hN, or_low _ _ (by omega) cj.toNat_lt, List.take_add_one, gj]
        show _ = ((bigV (_ ++ [cj]) : Nat) : Int)
        rw [bigV_snoc]
      obtain ⟨N2, hN2⟩ : ∃ N2 : Int, N2 = (bigV ((bigL k 8).take (j + 1)) : Int) := ⟨_, rfl⟩
      rw [← hN2] at hw2
      have hwp : IntKind.i64.wrap ((pj : Int) + 1) = (pj : Int) + 1 := IntWalk.i64_in _ (by omega)
      have HN2 := Lib.hid hN2
      have HP := Lib.hid hpj'
      clear hb1 hlj hb2 h7 hN hN2 gj hcj hBr hpj' e2
      go_wp2
      go_roundw
      case rel => exact ⟨j + 1, N2, by first | (rw [HP.out]; done) | (rw [HP.out]; go_num), by omega, rfl, HN2.out, HBr.out⟩
      case measure => simp [intOf] <;> omega
    · have hjk' : ¬ (j : Int) + 1 < 9 := by omega
      have hje : j = 8 := by omega
      have hNk : N = (k : Int) := by
        rw [hN, hje, List.take_of_length_le (by rw [bigL_length]; omega), bigL_back (by simp only [Nat.reducePow]; omega)]
      subst hNk
      have hkk : ((k : Int) == (k : Int)) = true := beq_self_eq_true _
      clear hN hje
      go_wp2_with (go_at_call 9; (with_reducible refine (AW.out _ HBr.out).mono ?_); rintro e w9 ⟨rfl, hb9⟩)
      go_ret
      exact ⟨rfl, HBr.out.trans (hb9.mono HBr.out.size)⟩
end Go.Proofs.YtgkbijgknacccaaDoor
