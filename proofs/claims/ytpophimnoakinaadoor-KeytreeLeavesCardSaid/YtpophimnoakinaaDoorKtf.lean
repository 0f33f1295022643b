/- The document's Verify. -/
import Derived.Test.YtpophimnoakinaaDoorKte
namespace Go.Proofs.YtpophimnoakinaaDoor
open Go.ChangeShapes Go.WideShapes Go.ChangeAt Go.RowKit
set_option linter.unusedVariables false
set_option linter.unusedSimpArgs false

theorem rsum_b (s : ByteArray) (w : World) (hs : s.size ≤ 1000000) : Calls Tryd.prog 24 #[.string s] w fun e w' => e = .returned (.string (smB s)) ∧ Below w.heap.size w w' := rsum_any s w (by omega)
set_option maxHeartbeats 1600000 in
set_option maxRecDepth 100000 in
/-- Behind the two openings: the key's bytes are s. -/
theorem rver_in (key m raw ks : ByteArray) (w : World) (hk : key.size ≤ 100000) (hm : m.size ≤ 999990) (hks : kvE key = 0 ∧ kvS key = ks) (h2 : raw.size = 625) (h3 : useN raw < 8) : Calls Tryd.prog 21 #[.string key, .string m, .string raw] w fun e w' => e = .returned (.bool ((topB (clB (useN raw) m raw)).toList == ks.toList)) ∧ Below w.heap.size w w' := by
  have O2 := Lib.hid (fun (wx : World) => ropen_any 2 key wx (by unfold maxLen; omega))
  have O3 := Lib.hid (fun (wx : World) => ropen_any 3 key wx (by unfold maxLen; omega))
  have h0 : 0 < raw.size := by omega
  have hix : (raw[0]'h0).toNat = useN raw := use_get raw h0
  obtain ⟨u, hu⟩ : ∃ u, u = useN raw := ⟨_, rfl⟩
  rw [← hu] at hix h3 ⊢
  have h3i : ¬ ((8 : Int) ≤ (u : Int)) := by omega
  have hv : (raw.extract 1 577).size = 576 := by rw [ByteArray.size_extract, h2]; rfl
  have RC := Lib.hid (fun (wx : World) => rrecover_b m (raw.extract 1 577) wx hm)
  rw [recV_ok hv] at RC
  obtain ⟨C, hC⟩ : ∃ C : Nat → ByteArray, C = clP u m raw := ⟨_, rfl⟩
  have C0 : Hid (lfB (recB m (raw.extract 1 577)) = C 0) := Lib.hid (by rw [hC]; rfl)
  have CS : Hid (∀ k, (C k).size = 16) := Lib.hid (fun k => by rw [hC]; exact clP_size u m raw k)
  have CU : Hid (∀ k, C (k + 1) = if u / 2 ^ k % 2 = 0 then nodB (C k) (raw.extract (577 + 16 * k) (593 + 16 * k)) else nodB (raw.extract (577 + 16 * k) (593 + 16 * k)) (C k)) := Lib.hid (fun k => by rw [hC]; rfl)
  rw [← clP_three, ← hC]
  have hz := recB_size m (raw.extract 1 577)
  obtain ⟨v, hve⟩ : ∃ v, v = raw.extract 1 577 := ⟨_, rfl⟩
  rw [← hve] at RC hz C0
  obtain ⟨p, hp⟩ : ∃ p, p = recB m v := ⟨_, rfl⟩
  rw [← hp] at RC hz C0
  unfold lfB at C0
  obtain ⟨p0, hp0⟩ : ∃ p0 : ByteArray, { data := #[0] } ++ p = p0 := ⟨_, rfl⟩
  have hp0s : p0.size ≤ 100 := by rw [← hp0, ByteArray.size_append, hz]; decide
  rw [hp0] at C0
  have SH := Lib.hid (fun (wx : World) => rshort_b p0 wx (by omega))
  rw [C0.out] at SH
  have NO := Lib.hid (fun (wx : World) (a b : ByteArray) (ha : a.size = 16) (hb : b.size = 16) => rnode12_any a b wx (by omega) (by omega))
  have hve' := hve.symm
  have hzs : p.size ≤ 100 := by omega
  have HBT := Lib.hid (fun (k : Nat) (hk : k < 3) => shr_bit u k h3 hk)
  have HU8 : Hid (u < 8) := Lib.hid h3
  have HKS := Lib.hid hks
  clear hC C0 hve hp hz hv hu hks
  have key2 : Hid (opnE 2 key = 0 ∧ opnS 2 key = ks ∨ ¬ opnE 2 key = 0 ∧ opnE 3 key = 0 ∧ opnS 3 key = ks) := Lib.hid (by
    have := HKS.out
    unfold kvE kvS at this
    by_cases h : opnE 2 key = 0
    · rw [if_pos h, if_pos h] at this; exact .inl ⟨h, this.2⟩
    · rw [if_neg h, if_neg h] at this; exact .inr ⟨h, this.1, this.2⟩)
  obtain ⟨r, hr3⟩ : ∃ r, topB (C 3) = r := ⟨_, rfl⟩
  have HR3 : Hid (smB ({ data := #[2] } ++ C 3) = r) := Lib.hid hr3
  rw [hr3]
  clear hr3
  rcases key2.out with ⟨e2, s2⟩ | ⟨e2, e3, s3⟩
  · rw [e2, s2] at O2
    clear O3 s2 e2
    go_enter Tryd.func21, Tryd.ntmps21
    go_upto_region 10 with (first
      | (go_at_call 45; (with_reducible refine (O2.out _).mono ?_); rintro e w1 ⟨rfl, hb1⟩)
      | (go_at_call 46; (with_reducible refine (RC.out _).mono ?_); rintro e w2 ⟨rfl, hb2⟩; have b2 := hb1.trans (hb2.mono hb1.size))
      | (go_at_call 23; (with_reducible refine (SH.out _).mono ?_); rintro e w3 ⟨rfl, hb3⟩; have bS := b2.trans (hb3.mono b2.size)))
    clear hb1 hb2 hb3 b2
    go_loopw [12, 50] (fun x i wr => ∃ j : Nat, j ≤ 3 ∧ x = .string (C j) ∧ i = .int .i64 j ∧ Below w.heap.size w wr) (fun _ i _ => 3 - (intOf i).toNat)
    case atStart => exact ⟨0, by omega, rfl, rfl, bS⟩
    case round =>
      clear bS
      obtain ⟨j, hj, rfl, rfl, hb⟩ := hrel
      have hbs := hb.size
      by_cases hlt : j < 3
      · have hcu := CU.out j
        have hcs := CS.out j
        have hby := HBT.out j hlt
        have hys : (raw.extract (577 + 16 * j) (593 + 16 * j)).size = 16 := by rw [ByteArray.size_extract, h2]; omega
        obtain ⟨p1, hp1⟩ : ∃ p1, p1 = 577 + 16 * j := ⟨_, rfl⟩
        obtain ⟨p2, hp2⟩ : ∃ p2, p2 = 593 + 16 * j := ⟨_, rfl⟩
        rw [← hp1, ← hp2] at hcu hys
        have i1 : (577 : Int) + (j : Int) * 16 = (p1 : Int) := by omega
        have i2 : (577 : Int) + ((j : Int) + 1) * 16 = (p2 : Int) := by omega
        have l1 : (p1 : Int) ≤ (p2 : Int) := by omega
        have l2 : p2 ≤ raw.size := by omega
        have l3 : (p2 : Int) ≤ 625 := by omega
        obtain ⟨y, hy⟩ : ∃ y, raw.extract p1 p2 = y := ⟨_, rfl⟩
        rw [hy] at hcu hys
        obtain ⟨x, hx⟩ : ∃ x, x = C j := ⟨_, rfl⟩
        obtain ⟨x', hx'⟩ : ∃ x', x' = C (j + 1) := ⟨_, rfl⟩
        rw [← hx] at hcu hcs ⊢
        rw [← hx'] at hcu
        have HX' := Lib.hid hx'
        obtain ⟨b, hbe⟩ : ∃ b, b = u / 2 ^ j % 2 := ⟨_, rfl⟩
        rw [← hbe] at hby hcu
        by_cases hbit : b = 0
        · subst hbit
          rw [if_pos rfl] at hcu
          have J1 := Lib.hid (NO.out wr x y hcs hys)
          rw [← hcu] at J1
          clear hcu hcs hys hp1 hp2 hx hx' hbe
          go_wp2_with (go_at_call 47; (with_reducible refine J1.out.mono ?_); rintro e w4 ⟨rfl, hb4⟩)
          go_roundw
          case rel => exact ⟨j + 1, by omega, by rw [HX'.out], by go_num, hb.trans (hb4.mono hb.size)⟩
          case measure => simp [intOf]; omega
        · have hbi : ((b : Int) == 0) = false := by simp; omega
          rw [if_neg hbit] at hcu
          have J1 := Lib.hid (NO.out wr y x hys hcs)
          rw [← hcu] at J1
          clear hcu hcs hys hp1 hp2 hx hx' hbe
          go_wp2_with (go_at_call 47; (with_reducible refine J1.out.mono ?_); rintro e w4 ⟨rfl, hb4⟩)
          go_roundw
          case rel => exact ⟨j + 1, by omega, by rw [HX'.out], by go_num, hb.trans (hb4.mono hb.size)⟩
          case measure => simp [intOf]; omega
      · obtain rfl : j = 3 := by omega
        have hcs := CS.out 3
        have hr3 := HR3.out
        obtain ⟨x, hx⟩ : ∃ x, x = C 3 := ⟨_, rfl⟩
        rw [← hx] at hcs hr3 ⊢
        obtain ⟨q, hq⟩ : ∃ q : ByteArray, { data := #[2] } ++ x = q := ⟨_, rfl⟩
        have hqs : q.size ≤ 100 := by rw [← hq, ByteArray.size_append, hcs]; decide
        rw [hq] at hr3
        have SM := Lib.hid (fun wx => rsum_b q wx (by omega))
        rw [hr3] at SM
        have hxs : x.size ≤ 100 := by omega
        clear hx hcs hr3
        go_wp2_with (go_at_call 24; (with_reducible refine (SM.out _).mono ?_); rintro e w3 ⟨rfl, hb3⟩)
        go_ret
        exact ⟨rfl, hb.trans (hb3.mono hb.size)⟩
  · rw [e3, s3] at O3
    have hn := neq_of e2
    generalize opnE 2 key = e2' at O2 hn
    clear s3 e3 e2
    go_enter Tryd.func21, Tryd.ntmps21
    go_upto_region 10 with (first
      | (go_at_call 45; (with_reducible refine (O2.out _).mono ?_); rintro e w0 ⟨rfl, hb0⟩)
      | (go_at_call 45; (with_reducible refine (O3.out _).mono ?_); rintro e w1 ⟨rfl, hb1⟩; have b1 := hb0.trans (hb1.mono hb0.size))
      | (go_at_call 46; (with_reducible refine (RC.out _).mono ?_); rintro e w2 ⟨rfl, hb2⟩; have b2 := b1.trans (hb2.mono b1.size))
      | (go_at_call 23; (with_reducible refine (SH.out _).mono ?_); rintro e w3 ⟨rfl, hb3⟩; have bS := b2.trans (hb3.mono b2.size)))
    clear hb1 hb2 hb3 b2 b1 hb0
    go_loopw [12, 50] (fun x i wr => ∃ j : Nat, j ≤ 3 ∧ x = .string (C j) ∧ i = .int .i64 j ∧ Below w.heap.size w wr) (fun _ i _ => 3 - (intOf i).toNat)
    case atStart => exact ⟨0, by omega, rfl, rfl, bS⟩
    case round =>
      clear bS
      obtain ⟨j, hj, rfl, rfl, hb⟩ := hrel
      have hbs := hb.size
      by_cases hlt : j < 3
      · have hcu := CU.out j
        have hcs := CS.out j
        have hby := HBT.out j hlt
        have hys : (raw.extract (577 + 16 * j) (593 + 16 * j)).size = 16 := by rw [ByteArray.size_extract, h2]; omega
        obtain ⟨p1, hp1⟩ : ∃ p1, p1 = 577 + 16 * j := ⟨_, rfl⟩
        obtain ⟨p2, hp2⟩ : ∃ p2, p2 = 593 + 16 * j := ⟨_, rfl⟩
        rw [← hp1, ← hp2] at hcu hys
        have i1 : (577 : Int) + (j : Int) * 16 = (p1 : Int) := by omega
        have i2 : (577 : Int) + ((j : Int) + 1) * 16 = (p2 : Int) := by omega
        have l1 : (p1 : Int) ≤ (p2 : Int) := by omega
        have l2 : p2 ≤ raw.size := by omega
        have l3 : (p2 : Int) ≤ 625 := by omega
        obtain ⟨y, hy⟩ : ∃ y, raw.extract p1 p2 = y := ⟨_, rfl⟩
        rw [hy] at hcu hys
        obtain ⟨x, hx⟩ : ∃ x, x = C j := ⟨_, rfl⟩
        obtain ⟨x', hx'⟩ : ∃ x', x' = C (j + 1) := ⟨_, rfl⟩
        rw [← hx] at hcu hcs ⊢
        rw [← hx'] at hcu
        have HX' := Lib.hid hx'
        obtain ⟨b, hbe⟩ : ∃ b, b = u / 2 ^ j % 2 := ⟨_, rfl⟩
        rw [← hbe] at hby hcu
        by_cases hbit : b = 0
        · subst hbit
          rw [if_pos rfl] at hcu
          have J1 := Lib.hid (NO.out wr x y hcs hys)
          rw [← hcu] at J1
          clear hcu hcs hys hp1 hp2 hx hx' hbe
          go_wp2_with (go_at_call 47; (with_reducible refine J1.out.mono ?_); rintro e w4 ⟨rfl, hb4⟩)
          go_roundw
          case rel => exact ⟨j + 1, by omega, by rw [HX'.out], by go_num, hb.trans (hb4.mono hb.size)⟩
          case measure => simp [intOf]; omega
        · have hbi : ((b : Int) == 0) = false := by simp; omega
          rw [if_neg hbit] at hcu
          have J1 := Lib.hid (NO.out wr y x hys hcs)
          rw [← hcu] at J1
          clear hcu hcs hys hp1 hp2 hx hx' hbe
          go_wp2_with (go_at_call 47; (with_reducible refine J1.out.mono ?_); rintro e w4 ⟨rfl, hb4⟩)
          go_roundw
          case rel => exact ⟨j + 1, by omega, by rw [HX'.out], by go_num, hb.trans (hb4.mono hb.size)⟩
          case measure => simp [intOf]; omega
      · obtain rfl : j = 3 := by omega
        have hcs := CS.out 3
        have hr3 := HR3.out
        obtain ⟨x, hx⟩ : ∃ x, x = C 3 := ⟨_, rfl⟩
        rw [← hx] at hcs hr3 ⊢
        obtain ⟨q, hq⟩ : ∃ q : ByteArray, { data := #[2] } ++ x = q := ⟨_, rfl⟩
        have hqs : q.size ≤ 100 := by rw [← hq, ByteArray.size_append, hcs]; decide
        rw [hq] at hr3
        have SM := Lib.hid (fun wx => rsum_b q wx (by omega))
        rw [hr3] at SM
        have hxs : x.size ≤ 100 := by omega
        clear hx hcs hr3
        go_wp2_with (go_at_call 24; (with_reducible refine (SM.out _).mono ?_); rintro e w3 ⟨rfl, hb3⟩)
        go_ret
        exact ⟨rfl, hb.trans (hb3.mono hb.size)⟩
set_option maxHeartbeats 1600000 in
set_option maxRecDepth 100000 in
theorem rverify12_any (key m raw : ByteArray) (w : World) (hk : key.size ≤ 100000) (hm : m.size ≤ 999990) (hr : raw.size ≤ 100000) : Calls Tryd.prog 21 #[.string key, .string m, .string raw] w fun e w' => e = .returned (.bool (verB key m raw)) ∧ Below w.heap.size w w' := by
  by_cases hall : kvE key = 0 ∧ raw.size = 625 ∧ useN raw < 8
  · rw [verB_ok hall]
    exact rver_in key m raw _ w hk hm ⟨hall.1, rfl⟩ hall.2.1 hall.2.2
  rw [verB_no hall]
  have O2 := Lib.hid (fun (wx : World) => ropen_any 2 key wx (by unfold maxLen; omega))
  have O3 := Lib.hid (fun (wx : World) => ropen_any 3 key wx (by unfold maxLen; omega))
  have hu256 : useN raw < 256 := UInt8.toNat_lt _
  unfold kvE at hall
  by_cases e2 : opnE 2 key = 0
  · rw [if_pos e2] at hall
    rw [e2] at O2
    generalize opnS 2 key = s2 at O2
    clear O3 e2
    by_cases h2 : raw.size = 625
    · have h0 : 0 < raw.size := by omega
      have hix : (raw[0]'h0).toNat = useN raw := use_get raw h0
      have h3 : ¬ useN raw < 8 := fun h => hall ⟨rfl, h2, h⟩
      obtain ⟨u, hu⟩ : ∃ u, u = useN raw := ⟨_, rfl⟩
      rw [← hu] at hix h3 hu256
      have h3i : (8 : Int) ≤ (u : Int) := by omega
      have h2i : ((raw.size : Int) != 625) = false := by rw [h2]; rfl
      clear hu hall
      go_enter Tryd.func21, Tryd.ntmps21
      go_wp2_with (go_at_call 45; (with_reducible refine (O2.out _).mono ?_); rintro e w1 ⟨rfl, hb1⟩)
      go_ret
      exact ⟨rfl, hb1⟩
    · have h2i : ((raw.size : Int) != 625) = true := by simp; omega
      clear hall
      go_enter Tryd.func21, Tryd.ntmps21
      go_wp2_with (go_at_call 45; (with_reducible refine (O2.out _).mono ?_); rintro e w1 ⟨rfl, hb1⟩)
      go_ret
      exact ⟨rfl, hb1⟩
  · rw [if_neg e2] at hall
    have hn := neq_of e2
    generalize opnS 2 key = s2 at O2
    generalize opnS 3 key = s3 at O3
    generalize opnE 2 key = e2' at O2 hn
    clear e2
    by_cases e3 : opnE 3 key = 0
    · rw [e3] at O3 hall
      clear e3
      by_cases h2 : raw.size = 625
      · have h0 : 0 < raw.size := by omega
        have hix : (raw[0]'h0).toNat = useN raw := use_get raw h0
        have h3 : ¬ useN raw < 8 := fun h => hall ⟨rfl, h2, h⟩
        obtain ⟨u, hu⟩ : ∃ u, u = useN raw := ⟨_, rfl⟩
        rw [← hu] at hix h3 hu256
        have h3i : (8 : Int) ≤ (u : Int) := by omega
        have h2i : ((raw.size : Int) != 625) = false := by rw [h2]; rfl
        clear hu hall
        go_enter Tryd.func21, Tryd.ntmps21
        go_wp2_with (first
          | (go_at_call 45; (with_reducible refine (O2.out _).mono ?_); rintro e w0 ⟨rfl, hb0⟩)
          | (go_at_call 45; (with_reducible refine (O3.out _).mono ?_); rintro e w1 ⟨rfl, hb1⟩; have b1 := hb0.trans (hb1.mono hb0.size)))
        go_ret
        exact ⟨rfl, b1⟩
      · have h2i : ((raw.size : Int) != 625) = true := by simp; omega
        clear hall
        go_enter Tryd.func21, Tryd.ntmps21
        go_wp2_with (first
          | (go_at_call 45; (with_reducible refine (O2.out _).mono ?_); rintro e w0 ⟨rfl, hb0⟩)
          | (go_at_call 45; (with_reducible refine (O3.out _).mono ?_); rintro e w1 ⟨rfl, hb1⟩; have b1 := hb0.trans (hb1.mono hb0.size)))
        go_ret
        exact ⟨rfl, b1⟩
    · have hn3 := neq_of e3
      generalize opnE 3 key = e3' at O3 hn3
      clear hall e3
      go_enter Tryd.func21, Tryd.ntmps21
      go_wp2_with (first
        | (go_at_call 45; (with_reducible refine (O2.out _).mono ?_); rintro e w0 ⟨rfl, hb0⟩)
        | (go_at_call 45; (with_reducible refine (O3.out _).mono ?_); rintro e w1 ⟨rfl, hb1⟩; have b1 := hb0.trans (hb1.mono hb0.size)))
      go_ret
      exact ⟨rfl, b1⟩
end Go.Proofs.YtpophimnoakinaaDoor
