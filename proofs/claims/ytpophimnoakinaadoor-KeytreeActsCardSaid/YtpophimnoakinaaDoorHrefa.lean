/- Contract of the document's own block function of SHA-256. -/
import Derived.Test.YtpophimnoakinaaDoorHashc
import Derived.Deep.QuietTactic
import Derived.BigQuiet
namespace Go.Proofs.YtpophimnoakinaaDoor
open Go.ChangeShapes Go.WideShapes Go.ChangeAt Go.RowKit
set_option linter.unusedVariables false
set_option linter.unusedSimpArgs false

theorem wordAt_drop (L : List UInt8) (t : Nat) : wordAt (L.drop (4 * t)) 0 = wordAt L t := by
  unfold wordAt
  simp only [List.getD, List.getElem?_drop, Nat.mul_zero, Nat.add_zero, Nat.zero_add]
theorem rnd_flat (k w a b c d e f g h : Int) : rnd k w [a, b, c, d, e, f, g, h] =
    [(h + big1 e + chI e f g + k + w + (big0 a + majI a b c)) % 4294967296, a, b, c, (d + (h + big1 e + chI e f g + k + w)) % 4294967296, e, f, g] := by
  have e1 : ∀ x y : Int, (x % 4294967296 + y % 4294967296) % 4294967296 = (x + y) % 4294967296 := by intro x y; omega
  have e2 : ∀ x y : Int, (x + y % 4294967296) % 4294967296 = (x + y) % 4294967296 := by intro x y; omega
  simp only [rnd, e1, e2]
theorem KL_length : KL.length = 64 := by decide

set_option maxHeartbeats 800000 in
set_option maxRecDepth 100000 in
theorem block_any (hs : List Int) (s : ByteArray) (w : World) (h8 : hs.length = 8) (h0 : s.size = 64) :
    Calls Tryd.prog 51 #[.agg (u32s hs).toArray, .agg (u32s KL).toArray, .string s] w fun e w' => e = .returned (.agg (u32s (cmpI hs (wOf s.data.toList))).toArray) ∧ Below w.heap.size w w' := by
  obtain ⟨L, hL⟩ : ∃ L, L = s.data.toList := ⟨_, rfl⟩
  have HL0 := Lib.hid hL
  rw [← hL]
  obtain ⟨HV, hHV⟩ : ∃ V, V = u32s hs := ⟨_, rfl⟩
  obtain ⟨KV, hKV⟩ : ∃ V, V = u32s KL := ⟨_, rfl⟩
  have hHl : HV.length = 8 := by rw [hHV, u32s_length, h8]
  have hH1 : ∀ v ∈ HV, v.oneCell' = true := by rw [hHV]; exact u32s_one _
  have hKl : KV.length = 64 := by rw [hKV, u32s_length]; exact KL_length
  have gH : ∀ j, j < 8 → HV[j]? = some (.int .u32 (hs.getD j 0)) := fun j hj => by rw [hHV]; exact u32s_get hs j (by omega)
  have gK : ∀ j, j < 64 → KV[j]? = some (.int .u32 (KL.getD j 0)) := fun j hj => by rw [hKV]; exact u32s_get KL j (by rw [KL_length]; omega)
  rw [← hHV, ← hKV]
  have HHV := Lib.hid hHV
  have GH := Lib.hid gH
  have GK := Lib.hid gK
  clear hL hHV hKV gH gK
  go_enter Tryd.func51, Tryd.ntmps51
  go_wp2
  go_loopw [21] (fun i wr => ∃ t : Nat, t ≤ 16 ∧ i = .int .i64 t ∧ Arr wr w.heap.size 61 HV ∧ Arr wr (w.heap.size + 1) 63 KV ∧ Arr wr (w.heap.size + 2) 61 (zs 8) ∧ Arr wr (w.heap.size + 3) 63 (u32s (stF L t)) ∧ Below w.heap.size w wr) (fun i _ => 16 - (intOf i).toNat)
  case atStart =>
    refine ⟨0, by omega, rfl, ?_, ?_, ?_, ?_, ?_⟩
    · exact (((Arr.new w HV 61).alloc _).alloc _).alloc _
    · exact ((Arr.new2 w _ KV 63).alloc _).alloc _
    · exact (Arr.new3 w _ _ (zs 8) 61).alloc _
    · have := Arr.new (((w.alloc (.cells HV.toArray 61)).alloc (.cells KV.toArray 63)).alloc (.cells (zs 8).toArray 61)) (zs 64) 63
      have e : (((w.alloc (.cells HV.toArray 61)).alloc (.cells KV.toArray 63)).alloc (.cells (zs 8).toArray 61)).heap.size = w.heap.size + 3 := by simp
      rw [e] at this
      exact this
    · exact ((((Below.refl _ _).alloc (Nat.le_refl _) _).alloc (by simp) _).alloc (by simp; omega) _).alloc (by simp; omega) _
  case round =>
    obtain ⟨t, ht, rfl, a1, a2, a3, a4, hb⟩ := hrel
    by_cases hlt : t < 16
    · obtain ⟨q, hq⟩ : ∃ q, s.extract (4 * t) s.size = q := ⟨_, rfl⟩
      have hqs : 4 ≤ q.size := by rw [← hq, ext_size _ _ _ (by omega) (Nat.le_refl _)]; omega
      have hqw : wordAt q.data.toList 0 = wordAt L t := by rw [← hq, ext_data, toList_take_size, ← HL0.out, wordAt_drop]
      have HQW := Lib.hid (fun (wx : World) => hword_any q wx hqs)
      rw [hqw] at HQW
      obtain ⟨v, hv⟩ : ∃ v, v = wordAt L t := ⟨_, rfl⟩
      rw [← hv] at HQW
      have HV' := Lib.hid hv
      have hc := a4.u32 t (by rw [stF_length]; omega)
      have hf := a4.free t
      obtain ⟨z, hz⟩ : ∃ z, z = (stF L t).getD t 0 := ⟨_, rfl⟩
      rw [← hz] at hc
      have i64a : ((t : Nat) : Int) < 64 := by omega
      rw [h0] at hq
      clear hz hv hqw hqs
      go_wp2_with (go_at_call 66; (with_reducible refine (HQW.out _).mono ?_); rintro e w' ⟨rfl, nd, rfl⟩)
      go_roundw
      case rel =>
        refine ⟨t + 1, by omega, rfl, ?_, ?_, ?_, ?_, ?_⟩
        · exact (a1.drewN _).beside _ _ (by dsimp only; omega)
        · exact (a2.drewN _).beside _ _ (by dsimp only; omega)
        · exact (a3.drewN _).beside _ _ (by dsimp only; omega)
        · have := (a4.drewN nd).store t (.int .u32 v)
          rw [u32s_set, show (stF L t).set t v = stF L (t + 1) by rw [HV'.out]; rfl] at this
          exact this
        · exact (belowN hb _).setCell (p := ⟨w.heap.size + 3, t, none⟩) (by simp) _
      case measure => simp [intOf]; omega
    · obtain rfl : t = 16 := by omega
      obtain ⟨X, hX⟩ : ∃ X, X = stF L 16 := ⟨_, rfl⟩
      have hXl : X.length = 64 := by rw [hX, stF_length]
      have HX := Lib.hid hX
      rw [← hX] at a4
      clear hX
      rw [show ((16 : Nat) : Int) = 16 from rfl]
      go_wp2
      go_loopw [9] (fun i wr => ∃ n : Nat, n ≤ 48 ∧ i = .int .i64 (16 + n : Nat) ∧ Arr wr w.heap.size 61 HV ∧ Arr wr (w.heap.size + 1) 63 KV ∧ Arr wr (w.heap.size + 2) 61 (zs 8) ∧ Arr wr (w.heap.size + 3) 63 (u32s (exF X n)) ∧ Below w.heap.size w wr) (fun i _ => 64 - (intOf i).toNat)
      case atStart => exact ⟨0, by omega, rfl, a1, a2, a3, a4, hb⟩
      case round =>
        clear a1 a2 a3 a4 hb
        obtain ⟨n, hn, rfl, a1, a2, a3, a4, hb⟩ := hrel
        have hxl := exF_length X hXl n
        by_cases hlt : n < 48
        · obtain ⟨xs, hxs⟩ : ∃ xs, xs = exF X n := ⟨_, rfl⟩
          have hxn : exF X (n + 1) = xs.set (16 + n) (nextI xs (16 + n)) := by rw [hxs]; rfl
          have HXN := Lib.hid hxn
          rw [← hxs] at a4 hxl
          clear hxs hxn
          obtain ⟨t, ht⟩ : ∃ t, t = 16 + n := ⟨_, rfl⟩
          rw [← ht] at HXN ⊢
          have ht1 : 16 ≤ t := by omega
          have ht2 : t < 64 := by omega
          have HT := Lib.hid ht
          clear ht
          obtain ⟨x, hx⟩ : ∃ x, xs.getD (t - 15) 0 = x := ⟨_, rfl⟩
          obtain ⟨y, hy⟩ : ∃ x, xs.getD (t - 2) 0 = x := ⟨_, rfl⟩
          obtain ⟨x7, hx7⟩ : ∃ x, xs.getD (t - 7) 0 = x := ⟨_, rfl⟩
          obtain ⟨x16, hx16⟩ : ∃ x, xs.getD (t - 16) 0 = x := ⟨_, rfl⟩
          have hnx : nextI xs t = (sg1 y + x7 + sg0 x + x16) % 4294967296 := by unfold nextI; rw [hx, hy, hx7, hx16]
          have HNX := Lib.hid hnx
          have g15 := a4.u32 (t - 15) (by omega)
          have g2 := a4.u32 (t - 2) (by omega)
          have g7 := a4.u32 (t - 7) (by omega)
          have g16 := a4.u32 (t - 16) (by omega)
          have g0 := a4.u32 t (by omega)
          rw [hx] at g15
          rw [hy] at g2
          rw [hx7] at g7
          rw [hx16] at g16
          obtain ⟨z, hz⟩ : ∃ z, xs.getD t 0 = z := ⟨_, rfl⟩
          rw [hz] at g0
          clear hx hy hx7 hx16 hnx hz
          have n15 : ((t - 15 : Nat) : Int) = (t : Int) - 15 := by omega
          have i15 : IntKind.i64.wrap ((t : Int) - 15) = ((t - 15 : Nat) : Int) := by rw [IntKind.wrap_i64]; omega
          have i2 : IntKind.i64.wrap ((t : Int) - 2) = ((t - 2 : Nat) : Int) := by rw [IntKind.wrap_i64]; omega
          have i64a : (t : Int) < 64 := by omega
          have hf := a4.free t
          obtain ⟨s0, hs0⟩ : ∃ v, bits .xor .u32 (bits .xor .u32 (roI 7 x) (roI 18 x)) (x / 8) = v := ⟨_, rfl⟩
          obtain ⟨s1, hs1⟩ : ∃ v, bits .xor .u32 (bits .xor .u32 (roI 17 y) (roI 19 y)) (y / 1024) = v := ⟨_, rfl⟩
          go_wp2
          go_quiet (fail)
          go_wp2_with (first | (go_at_call 67; (with_reducible refine (right7 _ _).mono ?_); rintro e w' ⟨rfl, rfl⟩) | (go_at_call 67; (with_reducible refine (right18 _ _).mono ?_); rintro e w' ⟨rfl, rfl⟩) | (go_at_call 67; (with_reducible refine (right17 _ _).mono ?_); rintro e w' ⟨rfl, rfl⟩) | (go_at_call 67; (with_reducible refine (right19 _ _).mono ?_); rintro e w' ⟨rfl, rfl⟩))
          go_region
          go_wp2
          go_roundw
          case rel =>
            refine ⟨n + 1, by omega, by rw [HT.out]; push_cast; rfl, ?_, ?_, ?_, ?_, ?_⟩
            · exact a1.beside _ _ (by dsimp only; omega)
            · exact a2.beside _ _ (by dsimp only; omega)
            · exact a3.beside _ _ (by dsimp only; omega)
            · have := a4.store t (.int .u32 (nextI xs t))
              rw [u32s_set] at this
              rw [HXN.out]
              rw [HNX.out] at this ⊢
              unfold sg0 sg1 at this ⊢
              rw [hs0, hs1] at this ⊢
              exact this
            · exact (belowN hb _).setCell (p := ⟨w.heap.size + 3, t, none⟩) (by simp) _
          case measure => simp [intOf]; omega
        · obtain rfl : n = 48 := by omega
          rw [show (((16 + 48 : Nat) : Nat) : Int) = 64 from rfl]
          obtain ⟨R, hR⟩ : ∃ R, R = exF X 48 := ⟨_, rfl⟩
          have hRW : R = wOf L := by rw [hR, HX.out]; rfl
          have HR := Lib.hid hRW
          have GW : Hid (∀ j, j < 64 → (u32s R)[j]? = some (.int .u32 (R.getD j 0))) := Lib.hid (fun j hj => u32s_get R j (by rw [hR, hxl]; omega))
          rw [← hR] at a4 hxl
          clear hR hRW
          have av0 := Arr.new wr (zs 8) 61
          have a1v := a1.alloc (.cells (zs 8).toArray 61)
          go_wp2_with (first | (refine wp_ld rfl 61 (.tmp 3) rfl _ rfl a1 Tryd.underlying61 info8 hHl ?_) | (refine wp_st rfl 61 (.tmp 14) (.tmp 75) rfl _ HV rfl rfl av0 info8 (zs_length 8) hHl hH1 ?_))
          have hgv : w.heap.size + 3 < wr.heap.size := a4.lt
          obtain ⟨gv, hg⟩ : ∃ gv, gv = wr.heap.size := ⟨_, rfl⟩
          rw [← hg] at hgv av0
          simp only [← hg]
          have HG := Lib.hid hg
          clear hg
          obtain ⟨z0, z1, z2, z3, z4, z5, z6, z7, hz⟩ := eight h8
          go_loopw [76] (fun i wv => ∃ t : Nat, ∃ na nb nc nd ne nf ng nh : Int, t ≤ 64 ∧ i = .int .i64 t ∧ rF hs R t = [na, nb, nc, nd, ne, nf, ng, nh] ∧ Arr wv w.heap.size 61 HV ∧ Arr wv (w.heap.size + 1) 63 KV ∧ Arr wv (w.heap.size + 2) 61 (zs 8) ∧ Arr wv (w.heap.size + 3) 63 (u32s R) ∧ Arr wv gv 61 (u32s [na, nb, nc, nd, ne, nf, ng, nh]) ∧ Below w.heap.size w wv) (fun i _ => 64 - (intOf i).toNat)
          case atStart =>
            refine ⟨0, z0, z1, z2, z3, z4, z5, z6, z7, by omega, rfl, hz, ?_, ?_, ?_, ?_, ?_, ?_⟩
            · exact (a1.alloc _).besideRow gv _ (by omega)
            · exact (a2.alloc _).besideRow gv _ (by omega)
            · exact (a3.alloc _).besideRow gv _ (by omega)
            · exact (a4.alloc _).besideRow gv _ (by omega)
            · have := av0.setRow HV
              rw [← hz, ← HHV.out]
              exact this
            · exact below_setRow (hb.alloc hb.size _) gv (by omega) _
          case round =>
            clear a1 a2 a3 a4 hb av0 a1v
            have HZ := Lib.hid hz
            clear hz
            obtain ⟨t, na, nb, nc, nd, ne, nf, ng, nh, ht, rfl, hr, a1, a2, a3, a4, a5, hb⟩ := hrel
            have HR' := Lib.hid hr
            clear hr
            by_cases hlt : t < 64
            · have gk := a2.cellAt (GK.out t hlt)
              have gw := a4.cellAt (GW.out t hlt)
              obtain ⟨k, hkk⟩ : ∃ k, KL.getD t 0 = k := ⟨_, rfl⟩
              obtain ⟨v, hvv⟩ : ∃ k, R.getD t 0 = k := ⟨_, rfl⟩
              rw [hkk] at gk
              rw [hvv] at gw
              obtain ⟨c0, c1, c2, c3, c4, c5, c6, c7⟩ := arr8 a5
              have i64a : (t : Int) < 64 := by omega
              obtain ⟨S1, hS1⟩ : ∃ v, bits .xor .u32 (bits .xor .u32 (roI 6 ne) (roI 11 ne)) (roI 25 ne) = v := ⟨_, rfl⟩
              obtain ⟨S0, hS0⟩ : ∃ v, bits .xor .u32 (bits .xor .u32 (roI 2 na) (roI 13 na)) (roI 22 na) = v := ⟨_, rfl⟩
              have hrn : rF hs R (t + 1) = rnd k v [na, nb, nc, nd, ne, nf, ng, nh] := by rw [← HR'.out, ← hkk, ← hvv]; rfl
              have HN := Lib.hid hrn
              clear hrn hkk hvv
              have hmx : (if IntKind.u32.signed = true then -1 else IntKind.u32.max) = 4294967295 := rfl
              go_wp2
              go_quiet (fail)
              go_wp2
              go_quiet (first | (go_at_call 67; (with_reducible refine (right6 _ _).mono ?_); exact fun e u h => ⟨h.1, _, h.2.symm⟩) | (go_at_call 67; (with_reducible refine (right11 _ _).mono ?_); exact fun e u h => ⟨h.1, _, h.2.symm⟩) | (go_at_call 67; (with_reducible refine (right25 _ _).mono ?_); exact fun e u h => ⟨h.1, _, h.2.symm⟩))
              go_wp2
              go_quiet (first | (go_at_call 67; (with_reducible refine (right2 _ _).mono ?_); exact fun e u h => ⟨h.1, _, h.2.symm⟩) | (go_at_call 67; (with_reducible refine (right13 _ _).mono ?_); exact fun e u h => ⟨h.1, _, h.2.symm⟩) | (go_at_call 67; (with_reducible refine (right22 _ _).mono ?_); exact fun e u h => ⟨h.1, _, h.2.symm⟩))
              go_wp2_with (refine wp_st rfl 61 (.tmp 14) (.tmp 154) rfl _ _ rfl rfl a5 info8 rfl rfl (by simp [Value.oneCell']) ?_)
              go_roundw
              case rel =>
                have hS1' : big1 ne = S1 := hS1
                have hS0' : big0 na = S0 := hS0
                refine ⟨t + 1, _, na, nb, nc, _, ne, nf, ng, by omega, rfl, ?_, a1.besideRow _ _ (by omega), a2.besideRow _ _ (by omega), a3.besideRow _ _ (by omega), a4.besideRow _ _ (by omega), a5.setRow _, below_setRow (belowN hb _) _ (by omega) _⟩
                rw [HN.out, rnd_flat]
                simp only [hS1', hS0']
                rfl
              case measure => simp [intOf]; omega
            · obtain rfl : t = 64 := by omega
              rw [show ((64 : Nat) : Int) = 64 from rfl]
              obtain ⟨vs, hvs⟩ : ∃ vs, vs = rF hs R 64 := ⟨_, rfl⟩
              have hvl : vs = [na, nb, nc, nd, ne, nf, ng, nh] := by rw [hvs]; exact HR'.out
              have hv8 : vs.length = 8 := by rw [hvl]; rfl
              rw [← hvl] at a5
              have HVS := Lib.hid hvs
              clear hvs hvl HR'
              go_wp2
              go_loopw [156] (fun i wv => ∃ j : Nat, j ≤ 8 ∧ i = .int .i64 j ∧ Arr wv w.heap.size 61 HV ∧ Arr wv (w.heap.size + 2) 61 (zs 8) ∧ Arr wv gv 61 (u32s (addF vs hs j)) ∧ Below w.heap.size w wv) (fun i _ => 8 - (intOf i).toNat)
              case atStart => exact ⟨0, by omega, rfl, a1, a3, by rw [addF_zero vs hs hv8]; exact a5, hb⟩
              case round =>
                clear a1 a2 a3 a4 a5 hb
                obtain ⟨j, hj, rfl, a1, a3, a5, hb⟩ := hrel
                by_cases hlt : j < 8
                · have c1 := a5.u32 j (by rw [addF_length]; omega)
                  rw [addF_get vs hs j j hlt, if_neg (by omega)] at c1
                  have f1 := a5.free j
                  have gj := a1.cellAt (GH.out j hlt)
                  obtain ⟨x, hx⟩ : ∃ x, vs.getD j 0 = x := ⟨_, rfl⟩
                  obtain ⟨y, hy⟩ : ∃ x, hs.getD j 0 = x := ⟨_, rfl⟩
                  have hn := addF_succ vs hs j hlt
                  rw [hx, hy] at hn
                  rw [hx] at c1
                  rw [hy] at gj
                  have HN := Lib.hid hn
                  clear hn hx hy
                  have i64a : (j : Int) < 8 := by omega
                  go_wp2
                  go_region
                  go_wp2
                  go_roundw
                  case rel =>
                    refine ⟨j + 1, by omega, rfl, ?_, ?_, ?_, ?_⟩
                    · exact a1.beside _ _ (by dsimp only; omega)
                    · exact a3.beside _ _ (by dsimp only; omega)
                    · have := a5.store j (.int .u32 ((x + y) % 4294967296))
                      rw [u32s_set, ← HN.out] at this
                      exact this
                    · exact hb.drew.setCell (p := ⟨gv, j, none⟩) (by dsimp only; omega) _
                  case measure => simp [intOf]; omega
                · obtain rfl : j = 8 := by omega
                  obtain ⟨V, hV⟩ : ∃ V, V = u32s (addF vs hs 8) := ⟨_, rfl⟩
                  have hVl' : V.length = 8 := by rw [hV, u32s_length, addF_length]
                  have hV1 : ∀ v ∈ V, v.oneCell' = true := by rw [hV]; exact u32s_one _
                  have HV' : Hid (V = u32s (cmpI hs (wOf L))) := Lib.hid (by rw [hV, ← addF_comm, HVS.out, HR.out]; rfl)
                  rw [← hV] at a5
                  have hnw := a3.setRow V
                  clear hV
                  go_wp2_with (first | (refine wp_ld rfl 61 (.tmp 14) rfl _ rfl a5 Tryd.underlying61 info8 hVl' ?_) | (refine wp_st rfl 61 (.tmp 6) (.tmp 168) rfl _ V rfl rfl a3 info8 (zs_length 8) hVl' hV1 ?_))
                  refine bodyPost_ret (v := .agg V.toArray) (res_arr rfl _ _ _ rfl hnw Tryd.underlying61 info8 hVl') rfl ⟨by rw [HV'.out], below_setRow hb (w.heap.size + 2) (by omega) _⟩

end Go.Proofs.YtpophimnoakinaaDoor
