/- Contracts of package hash: expand (the 64 words of a block), addBlock (the sums behind a block). -/
import Derived.Test.YtpophimnoakinaaDoorHasha
import Derived.Deep.WholeRow
namespace Go.Proofs.YtpophimnoakinaaDoor
open Go.ChangeShapes Go.WideShapes Go.ChangeAt Go.RowKit
set_option linter.unusedVariables false
set_option linter.unusedSimpArgs false

def u32s (l : List Int) : List Value := l.map (Value.int .u32)
def zs (n : Nat) : List Value := List.replicate n (.int .u32 0)
theorem u32s_length (l : List Int) : (u32s l).length = l.length := by simp [u32s]
theorem zs_length (n : Nat) : (zs n).length = n := by simp [zs]
theorem u32s_set (l : List Int) (i : Nat) (x : Int) : (u32s l).set i (.int .u32 x) = u32s (l.set i x) := by
  unfold u32s; rw [List.map_set]
theorem u32s_one (l : List Int) : ∀ v ∈ u32s l, v.oneCell' = true := by
  intro v hv
  obtain ⟨n, _, rfl⟩ := List.mem_map.1 hv
  rfl
theorem u32s_get (l : List Int) (j : Nat) (hj : j < l.length) : (u32s l)[j]? = some (.int .u32 (l.getD j 0)) := by
  simp only [u32s, List.getElem?_map, List.getD]
  rw [List.getElem?_eq_getElem hj]
  rfl
theorem Arr.u32 {w : World} {g : Nat} {T : TypeId} {l : List Int} (h : Arr w g T (u32s l)) (j : Nat) (hj : j < l.length) : w.cell? ⟨g, j, none⟩ = some (.int .u32 (l.getD j 0)) :=
  h.cellAt (u32s_get l j hj)
theorem getD_take_drop (l : List UInt8) (a b i : Nat) (h : a + i < b) : ((l.take b).drop a).getD i 0 = l.getD (a + i) 0 := by
  simp only [List.getD, List.getElem?_drop, List.getElem?_take, if_pos h]

theorem info64 : (Tryd.prog.info? 63).map (·.size) = some 64 := by kernel_rfl
theorem info8 : (Tryd.prog.info? 61).map (·.size) = some 8 := by kernel_rfl

set_option maxHeartbeats 1000000 in
set_option maxRecDepth 100000 in
theorem expand_any (s : ByteArray) (w : World) (h0 : s.size = 64) :
    Calls Tryd.prog 88 #[.string s] w fun e w' => e = .returned (.agg (u32s (wOf s.data.toList)).toArray) ∧ Below w.heap.size w w' := by
  obtain ⟨L, hL⟩ : ∃ L, L = s.data.toList := ⟨_, rfl⟩
  have HL0 := Lib.hid hL
  rw [← hL]
  clear hL
  go_enter Tryd.func88, Tryd.ntmps88
  go_wp2
  go_loopw [11] (fun i wr => ∃ t : Nat, t ≤ 16 ∧ i = .int .i64 t ∧ Arr wr w.heap.size 63 (zs 64) ∧ Arr wr (w.heap.size + 1) 63 (u32s (stF L t)) ∧ Below w.heap.size w wr) (fun i _ => 16 - (intOf i).toNat)
  case atStart =>
    refine ⟨0, by omega, rfl, ?_, ?_, ?_⟩
    · exact (Arr.new w (zs 64) 63).alloc _
    · exact Arr.new2 w _ (zs 64) 63
    · exact ((Below.refl _ _).alloc (Nat.le_refl _) _).alloc (by simp) _
  case round =>
    obtain ⟨t, ht, rfl, ha1, ha2, hb⟩ := hrel
    by_cases hlt : t < 16
    · obtain ⟨q, hq⟩ : ∃ q, s.extract (4 * t) (4 * (t + 1)) = q := ⟨_, rfl⟩
      have hqs : q.size = 4 := by rw [← hq, ext_size _ _ _ (by omega) (by omega)]; omega
      have hw : wordAt L t = wordI q[0].toNat q[1].toNat q[2].toNat q[3].toNat := by
        have g : ∀ i (hi : i < q.size), q[i] = L.getD (4 * t + i) 0 := by
          intro i hi
          have := ext_get s (4 * t) (4 * (t + 1)) i (by rw [hq]; exact hi)
          rw [HL0.out, ← this]
          congr 1
          exact hq.symm
        rw [g 0 (by omega), g 1 (by omega), g 2 (by omega), g 3 (by omega)]
        rfl
      have HW := Lib.hid hw
      clear hw
      have b0 := UInt8.toNat_lt q[0]
      have b1 := UInt8.toNat_lt q[1]
      have b2 := UInt8.toNat_lt q[2]
      have b3 := UInt8.toNat_lt q[3]
      have hc := ha2.u32 t (by rw [stF_length]; omega)
      have hf := ha2.free t
      obtain ⟨z, hz⟩ : ∃ z, z = (stF L t).getD t 0 := ⟨_, rfl⟩
      rw [← hz] at hc
      clear hz
      have i64a : ((t : Nat) : Int) < 64 := by omega
      go_wp2
      go_region
      go_wp2
      go_roundw
      case rel =>
        refine ⟨t + 1, by omega, rfl, ?_, ?_, ?_⟩
        · exact (ha1.beside _ _ (by simp)).drew
        · have := ha2.store t (.int .u32 (wordI q[0].toNat q[1].toNat q[2].toNat q[3].toNat))
          rw [u32s_set, show (stF L t).set t (wordI q[0].toNat q[1].toNat q[2].toNat q[3].toNat) = stF L (t + 1) by rw [← HW.out]; rfl] at this
          exact this
        · exact (hb.setCell (p := ⟨w.heap.size + 1, t, none⟩) (by simp) _).drew
      case measure => simp [intOf]; omega
    · obtain rfl : t = 16 := by omega
      have hsz : wr.heap.size > w.heap.size + 1 := ha2.lt
      obtain ⟨X, hX⟩ : ∃ X, X = stF L 16 := ⟨_, rfl⟩
      have hXl : X.length = 64 := by rw [hX, stF_length]
      have HX := Lib.hid hX
      rw [← hX] at ha2
      clear hX
      rw [show ((16 : Nat) : Int) = 16 from rfl]
      go_wp2
      go_loopw [6] (fun i wr => ∃ n : Nat, n ≤ 48 ∧ i = .int .i64 (16 + n : Nat) ∧ Arr wr w.heap.size 63 (zs 64) ∧ Arr wr (w.heap.size + 1) 63 (u32s (exF X n)) ∧ Below w.heap.size w wr) (fun i _ => 64 - (intOf i).toNat)
      case atStart => exact ⟨0, by omega, rfl, ha1, ha2, hb⟩
      case round =>
        clear ha1 ha2 hb hsz
        obtain ⟨n, hn, rfl, ha1, ha2, hb⟩ := hrel
        have hxl := exF_length X hXl n
        by_cases hlt : n < 48
        · obtain ⟨xs, hxs⟩ : ∃ xs, xs = exF X n := ⟨_, rfl⟩
          have hxn : exF X (n + 1) = xs.set (16 + n) (nextI xs (16 + n)) := by rw [hxs]; rfl
          have HXN := Lib.hid hxn
          rw [← hxs] at ha2 hxl
          clear hxs hxn
          obtain ⟨t, ht⟩ : ∃ t, t = 16 + n := ⟨_, rfl⟩
          rw [← ht] at HXN ⊢
          have ht1 : 16 ≤ t := by omega
          have ht2 : t < 64 := by omega
          have HT := Lib.hid ht
          clear ht
          obtain ⟨x, hx⟩ : ∃ x, xs.getD (t - 15) 0 = x := ⟨_, rfl⟩
          obtain ⟨y, hy⟩ : ∃ x, xs.getD (t - 2) 0 = x := ⟨_, rfl⟩
          obtain ⟨x7, hx7⟩ : ∃ x, xs.getD (t - 7) 0 = x := ⟨_, rfl⟩
          obtain ⟨x16, hx16⟩ : ∃ x, xs.getD (t - 16) 0 = x := ⟨_, rfl⟩
          have hnx : nextI xs t = (sg1 y + x7 + sg0 x + x16) % 4294967296 := by unfold nextI; rw [hx, hy, hx7, hx16]
          have HNX := Lib.hid hnx
          have g15 := ha2.u32 (t - 15) (by omega)
          have g2 := ha2.u32 (t - 2) (by omega)
          have g7 := ha2.u32 (t - 7) (by omega)
          have g16 := ha2.u32 (t - 16) (by omega)
          have g0 := ha2.u32 t (by omega)
          rw [hx] at g15
          rw [hy] at g2
          rw [hx7] at g7
          rw [hx16] at g16
          obtain ⟨z, hz⟩ : ∃ z, xs.getD t 0 = z := ⟨_, rfl⟩
          rw [hz] at g0
          clear hx hy hx7 hx16 hnx hz
          have n15 : ((t - 15 : Nat) : Int) = (t : Int) - 15 := by omega
          have i15 : IntKind.i64.wrap ((t : Int) - 15) = ((t - 15 : Nat) : Int) := by rw [IntKind.wrap_i64]; omega
          have i2 : IntKind.i64.wrap ((t : Int) - 2) = ((t - 2 : Nat) : Int) := by rw [IntKind.wrap_i64]; omega
          have i64a : (t : Int) < 64 := by omega
          have hf := ha2.free t
          obtain ⟨s0, hs0⟩ : ∃ v, bits .xor .u32 (bits .xor .u32 (roI 7 x) (roI 18 x)) (x / 8) = v := ⟨_, rfl⟩
          obtain ⟨s1, hs1⟩ : ∃ v, bits .xor .u32 (bits .xor .u32 (roI 17 y) (roI 19 y)) (y / 1024) = v := ⟨_, rfl⟩
          go_wp2
          go_quiet (fail)
          go_wp2_with (first | (go_at_call 97; (with_reducible refine (rot7 _ _).mono ?_); rintro e w' ⟨rfl, rfl⟩) | (go_at_call 97; (with_reducible refine (rot18 _ _).mono ?_); rintro e w' ⟨rfl, rfl⟩) | (go_at_call 97; (with_reducible refine (rot17 _ _).mono ?_); rintro e w' ⟨rfl, rfl⟩) | (go_at_call 97; (with_reducible refine (rot19 _ _).mono ?_); rintro e w' ⟨rfl, rfl⟩))
          go_region
          go_wp2
          go_roundw
          case rel =>
            refine ⟨n + 1, by omega, by rw [HT.out]; push_cast; rfl, ?_, ?_, ?_⟩
            · exact ha1.beside _ _ (by simp)
            · have := ha2.store t (.int .u32 (nextI xs t))
              rw [u32s_set] at this
              rw [HXN.out]
              rw [HNX.out] at this ⊢
              unfold sg0 sg1 at this ⊢
              rw [hs0, hs1] at this ⊢
              exact this
            · exact (belowN hb _).setCell (p := ⟨w.heap.size + 1, t, none⟩) (by simp) _
          case measure => simp [intOf]; omega
        · obtain rfl : n = 48 := by omega
          obtain ⟨R, hR⟩ : ∃ R, R = exF X 48 := ⟨_, rfl⟩
          have hRW : R = wOf L := by rw [hR, HX.out]; rfl
          have HR := Lib.hid hRW
          rw [← hR] at ha2 hxl
          clear hR hRW
          have hnw := ha1.setRow (u32s R)
          obtain ⟨V, hV⟩ : ∃ V, V = u32s R := ⟨_, rfl⟩
          have hVl : V.length = 64 := by rw [hV, u32s_length, hxl]
          have hV1 : ∀ v ∈ V, v.oneCell' = true := by rw [hV]; exact u32s_one R
          rw [← hV] at ha2 hnw
          have HV : Hid (V = u32s (wOf L)) := by rw [HR.out] at hV; exact hV
          clear hV
          go_wp2_with (first | (refine wp_ld rfl 63 (.tmp 3) rfl _ rfl ha2 Tryd.underlying63 info64 hVl ?_) | (refine wp_st rfl 63 (.tmp 2) (.tmp 85) rfl _ V rfl rfl ha1 info64 (zs_length 64) hVl hV1 ?_))
          refine bodyPost_ret (v := .agg V.toArray) (res_arr rfl _ _ _ rfl hnw Tryd.underlying63 info64 hVl) rfl ⟨by rw [HV.out], below_setRow hb _ (by simp) _⟩

def KTab (w : World) : Prop := ∀ i, i < 64 → w.cell? ⟨2, i, none⟩ = some (.int .u32 (KL.getD i 0))
theorem KTab.below {w w' : World} (h : KTab w) {B : Nat} (hb : Below B w w') (hB : 2 < B) : KTab w' := fun i hi => by
  rw [hb.cell (p := ⟨2, i, none⟩) hB]; exact h i hi
set_option maxHeartbeats 2000000 in
set_option maxRecDepth 100000 in
theorem addBlock_any (hs W : List Int) (w : World) (h8 : hs.length = 8) (h64 : W.length = 64) (hK : KTab w) (hsz : 2 < w.heap.size) :
    Calls Tryd.prog 87 #[.agg (u32s hs).toArray, .agg (u32s W).toArray] w fun e w' => e = .returned (.agg (u32s (cmpI hs W)).toArray) ∧ Below w.heap.size w w' := by
  obtain ⟨HV, hHV⟩ : ∃ V, V = u32s hs := ⟨_, rfl⟩
  obtain ⟨WV, hWV⟩ : ∃ V, V = u32s W := ⟨_, rfl⟩
  have hHl : HV.length = 8 := by rw [hHV, u32s_length, h8]
  have hWl : WV.length = 64 := by rw [hWV, u32s_length, h64]
  have gH : ∀ j, j < 8 → HV[j]? = some (.int .u32 (hs.getD j 0)) := fun j hj => by rw [hHV]; exact u32s_get hs j (by omega)
  have gW : ∀ j, j < 64 → WV[j]? = some (.int .u32 (W.getD j 0)) := fun j hj => by rw [hWV]; exact u32s_get W j (by omega)
  rw [← hHV, ← hWV]
  have HHV := Lib.hid hHV
  clear hHV hWV
  have c : ∀ j, j < 8 → (((w.alloc (.cells HV.toArray 61)).alloc (.cells WV.toArray 63)).alloc (.cells (zs 8).toArray 61)).cell? ⟨w.heap.size, j, none⟩ = some (.int .u32 (hs.getD j 0)) := by
    intro j hj
    exact (((Arr.new w HV 61).alloc _).alloc _).cellAt (gH j hj)
  go_enter Tryd.func87, Tryd.ntmps87
  go_wp2
  obtain ⟨w1, hw1⟩ : ∃ w1, w1 = ((w.alloc (.cells HV.toArray 61)).alloc (.cells WV.toArray 63)).alloc (.cells (zs 8).toArray 61) := ⟨_, rfl⟩
  have a1 : Arr w1 w.heap.size 61 HV := by rw [hw1]; exact ((Arr.new w HV 61).alloc _).alloc _
  have a2 : Arr w1 (w.heap.size + 1) 63 WV := by rw [hw1]; exact (Arr.new2 w _ WV 63).alloc _
  have a3 : Arr w1 (w.heap.size + 2) 61 (zs 8) := by rw [hw1]; exact Arr.new3 w _ _ (zs 8) 61
  have b1 : Below w.heap.size w w1 := by rw [hw1]; exact (((Below.refl _ _).alloc (Nat.le_refl _) _).alloc (by simp) _).alloc (by simp; omega) _
  rw [show ((w.alloc (.cells HV.toArray 61)).alloc (.cells WV.toArray 63)).alloc (.cells #[.int .u32 0, .int .u32 0, .int .u32 0, .int .u32 0, .int .u32 0, .int .u32 0, .int .u32 0, .int .u32 0] 61) = w1 from hw1.symm]
  clear hw1
  have d0 := a1.cellAt (gH 0 (by omega))
  have d1 := a1.cellAt (gH 1 (by omega))
  have d2 := a1.cellAt (gH 2 (by omega))
  have d3 := a1.cellAt (gH 3 (by omega))
  have d4 := a1.cellAt (gH 4 (by omega))
  have d5 := a1.cellAt (gH 5 (by omega))
  have d6 := a1.cellAt (gH 6 (by omega))
  have d7 := a1.cellAt (gH 7 (by omega))
  obtain ⟨x0, hx0⟩ : ∃ x, hs.getD 0 0 = x := ⟨_, rfl⟩
  obtain ⟨x1, hx1⟩ : ∃ x, hs.getD 1 0 = x := ⟨_, rfl⟩
  obtain ⟨x2, hx2⟩ : ∃ x, hs.getD 2 0 = x := ⟨_, rfl⟩
  obtain ⟨x3, hx3⟩ : ∃ x, hs.getD 3 0 = x := ⟨_, rfl⟩
  obtain ⟨x4, hx4⟩ : ∃ x, hs.getD 4 0 = x := ⟨_, rfl⟩
  obtain ⟨x5, hx5⟩ : ∃ x, hs.getD 5 0 = x := ⟨_, rfl⟩
  obtain ⟨x6, hx6⟩ : ∃ x, hs.getD 6 0 = x := ⟨_, rfl⟩
  obtain ⟨x7, hx7⟩ : ∃ x, hs.getD 7 0 = x := ⟨_, rfl⟩
  rw [hx0] at d0; rw [hx1] at d1; rw [hx2] at d2; rw [hx3] at d3; rw [hx4] at d4; rw [hx5] at d5; rw [hx6] at d6; rw [hx7] at d7
  have hsl : hs = [x0, x1, x2, x3, x4, x5, x6, x7] := by
    obtain ⟨p, q, r, s, t, u, v, y, rfl⟩ := eight h8
    simp at hx0 hx1 hx2 hx3 hx4 hx5 hx6 hx7
    simp [hx0, hx1, hx2, hx3, hx4, hx5, hx6, hx7]
  have HS := Lib.hid hsl
  clear hx0 hx1 hx2 hx3 hx4 hx5 hx6 hx7 hsl c
  go_quiet (fail)
  go_wp2
  go_quiet (fail)
  go_wp2
  clear d0 d1 d2 d3 d4 d5 d6 d7
  go_loopw [5, 6, 7, 8, 9, 10, 11, 12, 36] (fun a b c d e f g h i wr => ∃ t : Nat, ∃ na nb nc nd ne nf ng nh : Int, t ≤ 64 ∧ i = .int .i64 t ∧ a = .int .u32 na ∧ b = .int .u32 nb ∧ c = .int .u32 nc ∧ d = .int .u32 nd ∧ e = .int .u32 ne ∧ f = .int .u32 nf ∧ g = .int .u32 ng ∧ h = .int .u32 nh ∧ rF hs W t = [na, nb, nc, nd, ne, nf, ng, nh] ∧ Arr wr w.heap.size 61 HV ∧ Arr wr (w.heap.size + 1) 63 WV ∧ Arr wr (w.heap.size + 2) 61 (zs 8) ∧ Below w.heap.size w wr) (fun _ _ _ _ _ _ _ _ i _ => 64 - (intOf i).toNat)
  case atStart => exact ⟨0, x0, x1, x2, x3, x4, x5, x6, x7, by omega, rfl, rfl, rfl, rfl, rfl, rfl, rfl, rfl, rfl, HS.out, a1, a2, a3, belowN (belowN b1 _) _⟩
  case round =>
    clear a1 a2 a3 b1
    obtain ⟨t, na, nb, nc, nd, ne, nf, ng, nh, ht, rfl, rfl, rfl, rfl, rfl, rfl, rfl, rfl, rfl, hr, a1, a2, a3, hb⟩ := hrel
    have HR := Lib.hid hr
    clear hr
    by_cases hlt : t < 64
    · have hk := hK t hlt
      rw [← hb.cell (p := ⟨2, t, none⟩) hsz] at hk
      have hw := a2.cellAt (gW t hlt)
      obtain ⟨k, hkk⟩ : ∃ k, KL.getD t 0 = k := ⟨_, rfl⟩
      obtain ⟨v, hvv⟩ : ∃ k, W.getD t 0 = k := ⟨_, rfl⟩
      rw [hkk] at hk
      rw [hvv] at hw
      have i64a : (t : Int) < 64 := by omega
      obtain ⟨S1, hS1⟩ : ∃ v, bits .xor .u32 (bits .xor .u32 (roI 6 ne) (roI 11 ne)) (roI 25 ne) = v := ⟨_, rfl⟩
      obtain ⟨S0, hS0⟩ : ∃ v, bits .xor .u32 (bits .xor .u32 (roI 2 na) (roI 13 na)) (roI 22 na) = v := ⟨_, rfl⟩
      have hrn : rF hs W (t + 1) = rnd k v [na, nb, nc, nd, ne, nf, ng, nh] := by rw [← HR.out, ← hkk, ← hvv]; rfl
      have HN := Lib.hid hrn
      clear hrn hkk hvv
      go_wp2_with (first | (go_at_call 97; (with_reducible refine (rot6 _ _).mono ?_); rintro e w' ⟨rfl, rfl⟩) | (go_at_call 97; (with_reducible refine (rot11 _ _).mono ?_); rintro e w' ⟨rfl, rfl⟩) | (go_at_call 97; (with_reducible refine (rot25 _ _).mono ?_); rintro e w' ⟨rfl, rfl⟩) | (go_at_call 97; (with_reducible refine (rot2 _ _).mono ?_); rintro e w' ⟨rfl, rfl⟩) | (go_at_call 97; (with_reducible refine (rot13 _ _).mono ?_); rintro e w' ⟨rfl, rfl⟩) | (go_at_call 97; (with_reducible refine (rot22 _ _).mono ?_); rintro e w' ⟨rfl, rfl⟩))
      have hmx : (if IntKind.u32.signed = true then -1 else IntKind.u32.max) = 4294967295 := rfl
      go_quiet (fail)
      go_wp2
      go_roundw
      case rel =>
        have hS1' : big1 ne = S1 := hS1
        have hS0' : big0 na = S0 := hS0
        refine ⟨t + 1, _, na, nb, nc, _, ne, nf, ng, by omega, rfl, rfl, rfl, rfl, rfl, rfl, rfl, rfl, rfl, ?_, a1, a2, a3, belowN hb _⟩
        rw [HN.out]
        simp only [rnd, hS1', hS0']
        rfl
      case measure => simp [intOf]; omega
    · obtain rfl : t = 64 := by omega
      rw [show ((64 : Nat) : Int) = 64 from rfl]
      obtain ⟨vs, hvs⟩ : ∃ vs, vs = rF hs W 64 := ⟨_, rfl⟩
      have hvl : vs = [na, nb, nc, nd, ne, nf, ng, nh] := by rw [hvs]; exact HR.out
      have hv8 : vs.length = 8 := by rw [hvl]; rfl
      obtain ⟨VS, hVS⟩ : ∃ V, V = u32s vs := ⟨_, rfl⟩
      have gV : ∀ j, j < 8 → VS[j]? = some (.int .u32 (vs.getD j 0)) := fun j hj => by rw [hVS]; exact u32s_get vs j (by omega)
      have hVA : (#[.int .u32 na, .int .u32 nb, .int .u32 nc, .int .u32 nd, .int .u32 ne, .int .u32 nf, .int .u32 ng, .int .u32 nh] : Array Value) = VS.toArray := by rw [hVS, hvl]; rfl
      have hVl : VS.length = 8 := by rw [hVS, u32s_length, hv8]
      have HVS := Lib.hid hvs
      clear hvs hvl hVS HR
      go_wp2
      clear hVA
      go_loopw [110] (fun i wr => ∃ j : Nat, j ≤ 8 ∧ i = .int .i64 j ∧ Arr wr w.heap.size 61 (u32s (addF hs vs j)) ∧ Arr wr (w.heap.size + 2) 61 (zs 8) ∧ Below w.heap.size w wr) (fun i _ => 8 - (intOf i).toNat)
      case atStart => exact ⟨0, by omega, rfl, by rw [addF_zero hs vs h8, ← HHV.out]; exact a1, a3, hb⟩
      case round =>
        clear a1 a2 a3 hb
        obtain ⟨j, hj, rfl, a1, a3, hb⟩ := hrel
        by_cases hlt : j < 8
        · have c1 := a1.u32 j (by rw [addF_length]; omega)
          rw [addF_get hs vs j j hlt, if_neg (by omega)] at c1
          have f1 := a1.free j
          have gj := gV j hlt
          obtain ⟨x, hx⟩ : ∃ x, hs.getD j 0 = x := ⟨_, rfl⟩
          obtain ⟨y, hy⟩ : ∃ x, vs.getD j 0 = x := ⟨_, rfl⟩
          have hn := addF_succ hs vs j hlt
          rw [hx, hy] at hn
          rw [hx] at c1
          rw [hy] at gj
          have HN := Lib.hid hn
          clear hn hx hy gV
          have i64a : (j : Int) < 8 := by omega
          have hix := run_index_agg (P := Tryd.prog) 61 60 8 VS j _ Tryd.underlying61 hlt Tryd.isAgg60 Tryd.sizeOf60 gj
          have hcm : (x + y) % 4294967296 = (x + y) % 4294967296 := rfl
          go_wp2
          go_roundw
          case rel =>
            refine ⟨j + 1, by omega, rfl, ?_, ?_, ?_⟩
            · have := a1.store j (.int .u32 ((x + y) % 4294967296))
              rw [u32s_set, ← HN.out] at this
              exact this
            · exact a3.beside _ _ (by simp)
            · exact hb.setCell (p := ⟨w.heap.size, j, none⟩) (by simp) _
          case measure => simp [intOf]; omega
        · obtain rfl : j = 8 := by omega
          obtain ⟨V, hV⟩ : ∃ V, V = u32s (addF hs vs 8) := ⟨_, rfl⟩
          have hVl' : V.length = 8 := by rw [hV, u32s_length, addF_length]
          have hV1 : ∀ v ∈ V, v.oneCell' = true := by rw [hV]; exact u32s_one _
          have HV' : Hid (V = u32s (cmpI hs W)) := by rw [HVS.out] at hV; exact hV
          rw [← hV] at a1
          have hnw := a3.setRow V
          clear hV gV
          go_wp2_with (first | (refine wp_ld rfl 61 (.tmp 2) rfl _ rfl a1 Tryd.underlying61 info8 hVl' ?_) | (refine wp_st rfl 61 (.tmp 4) (.tmp 121) rfl _ V rfl rfl a3 info8 (zs_length 8) hVl' hV1 ?_))
          refine bodyPost_ret (v := .agg V.toArray) (res_arr rfl _ _ _ rfl hnw Tryd.underlying61 info8 hVl') rfl ⟨by rw [HV'.out], below_setRow hb (w.heap.size + 2) (by omega) _⟩

end Go.Proofs.YtpophimnoakinaaDoor
