/- Recover of both sides; the sanity check of the statements of onetime. -/
import Derived.Test.YtpophimnoakinaaDoorObl
namespace Go.Proofs.YtpophimnoakinaaDoor
open Go.ChangeShapes Go.WideShapes Go.ChangeAt Go.RowKit
set_option linter.unusedVariables false
set_option linter.unusedSimpArgs false

/-- What Recover returns. -/
def recV (m vs : ByteArray) : Value := if vs.size = 576 then .tuple #[.string (recB m vs), .int .i64 0] else .tuple #[.string ⟨#[]⟩, .int .i64 8]
theorem recV_ok {m vs : ByteArray} (h : vs.size = 576) : recV m vs = .tuple #[.string (recB m vs), .int .i64 0] := if_pos h
theorem recV_no {m vs : ByteArray} (h : ¬ vs.size = 576) : recV m vs = .tuple #[.string ⟨#[]⟩, .int .i64 8] := if_neg h
theorem catB_size36 (g : Nat → ByteArray) (h : ∀ i, i < 36 → (g i).size = 16) : ∀ n, n ≤ 36 → (catB g n).size = 16 * n
  | 0, _ => rfl
  | n + 1, hn => by
    show (catB g n ++ g n).size = _
    rw [ByteArray.size_append, catB_size36 g h n (by omega), h n (by omega)]
    omega
set_option maxHeartbeats 800000 in
set_option maxRecDepth 100000 in
theorem recover_ok (m vs : ByteArray) (w : World) (hv : vs.size = 576) (hm : m.size ≤ 999990) (hT : STab w) :
    Calls Tryd.prog 43 #[.string m, .string vs] w fun e w' => e = .returned (.tuple #[.string (recB m vs), .int .i64 0]) ∧ Below w.heap.size w w' := by
  have WK := Lib.hid (fun (wx : World) (v : ByteArray) (c : Int) (d : Nat) (hd : d ≤ 3) (hv : v.size = 16) (h : STab wx) => walk_b v c d 3 (3 - d) wx (by omega) (by omega) (by decide) hv h)
  have SZ : Hid (∀ i, i < 36 → (vs.extract (16 * i) (16 * i + 16)).size = 16) := Lib.hid fun i hi => by rw [ByteArray.size_extract, hv]; omega
  have WZ : Hid (∀ v c f n, v.size = 16 → (wkB v c f n).size = 16) := Lib.hid fun v c f n h => wkB_size _ _ _ _ h
  have DG := Lib.hid (fun (wx : World) (h : STab wx) => digits_any m wx hm h)
  have HP : Hid (recB m vs = shB (catB (fun c : Nat => wkB (vs.extract (16 * c) (16 * c + 16)) c (dgs (h8 m) c) (3 - dgs (h8 m) c)) 36)) := Lib.hid rfl
  obtain ⟨H, hH⟩ : ∃ H, H = h8 m := ⟨_, rfl⟩
  rw [← hH] at DG HP
  clear hH
  obtain ⟨G, hG⟩ : ∃ G : Nat → ByteArray, G = fun c : Nat => wkB (vs.extract (16 * c) (16 * c + 16)) c (dgs H c) (3 - dgs H c) := ⟨_, rfl⟩
  rw [← hG] at HP
  have HGv : Hid (∀ j : Nat, wkB (vs.extract (16 * j) (16 * j + 16)) j (dgs H j) (3 - dgs H j) = G j) := Lib.hid fun j => by rw [hG]
  have HGs : Hid (∀ j, j ≤ 36 → (catB G j).size = 16 * j) := Lib.hid fun j hj => catB_size36 G (fun i hi => by rw [hG]; exact wkB_size _ _ _ _ (SZ.out i hi)) j hj
  have HC : Hid (∀ j, catB G j ++ G j = catB G (j + 1)) := Lib.hid fun j => rfl
  have b0 := (Below.refl w.heap.size w).alloc (o := .cells #[.pointer none, .slice none 0 0] 45) (Nat.le_refl _)
  have n0 := Lib.hid (Bls.new w)
  have DG0 := Lib.hid (DG.out _ (hT.below b0))
  have HT := Lib.hid hT
  clear hG hT
  go_enter Tryd.func43, Tryd.ntmps43
  go_wp2_with (go_at_call 62; (with_reducible refine DG0.out.mono ?_); rintro e w1 ⟨v1, rfl, hO1, hb1⟩; obtain ⟨g, cap, rfl, hgB, hc36, hcm, hrow⟩ := own_some hO1 (by decide); clear hO1)
  have hgb : g ≠ w.heap.size := by have : (w.alloc (.cells #[.pointer none, .slice none 0 0] 45)).heap.size = w.heap.size + 1 := by simp
                                   omega
  have hB1 := Bls.go n0.out hb1
  have b1 := b0.trans (hb1.mono b0.size)
  unfold maxLen at hcm
  clear b0 n0 hb1 hgB
  go_loopw [16] (fun i wr => ∃ j : Nat, ∃ q : ByteArray, j ≤ 36 ∧ i = .int .i64 j ∧ Hid (q = catB G j) ∧ Bls wr w.heap.size q ∧ Row wr g 3 cap (digL H 36) ∧ Below w.heap.size w wr) (fun i _ => 36 - (intOf i).toNat)
  case atStart => exact ⟨0, _, Nat.zero_le _, rfl, Lib.hid rfl, hB1, hrow, b1⟩
  case round =>
    clear b1 hB1 hrow
    obtain ⟨j, q, hj, rfl, hq, hB, hrow, hb⟩ := hrel
    have hqs : q.size ≤ 1000 := by rw [hq.out, HGs.out j hj]; omega
    have hbs := hb.size
    by_cases hlt : j < 36
    · have hcell := hrow.cellAt (digL_get H 36 j hlt)
      have hdl := dgs_le H j
      have hss := SZ.out j hlt
      have hww := WZ.out _ (j : Int) (dgs H j) (3 - dgs H j) hss
      obtain ⟨p1, hp1⟩ : ∃ p1, p1 = 16 * j := ⟨_, rfl⟩
      obtain ⟨p2, hp2⟩ : ∃ p2, p2 = 16 * j + 16 := ⟨_, rfl⟩
      obtain ⟨sv, hsv⟩ : ∃ sv, vs.extract p1 p2 = sv := ⟨_, rfl⟩
      have hsv' := hsv
      rw [hp1, hp2] at hsv'
      rw [hsv'] at hss hww
      have i1 : 16 * (j : Int) = (p1 : Int) := by omega
      have i2 : 16 * ((j : Int) + 1) = (p2 : Int) := by omega
      have l1 : (p1 : Int) ≤ (p2 : Int) := by omega
      have l2 : p2 ≤ vs.size := by omega
      have hgv := HGv.out j
      rw [hsv'] at hgv
      have C2 := Lib.hid (fun (wx : World) (h : STab wx) => WK.out wx sv j (dgs H j) hdl hss h)
      rw [hgv] at C2 hww
      have hcj := HC.out j
      obtain ⟨gv, hgv2⟩ : ∃ gv, gv = G j := ⟨_, rfl⟩
      rw [← hgv2] at C2 hww hcj
      obtain ⟨d, hd⟩ : ∃ d, d = dgs H j := ⟨_, rfl⟩
      rw [← hd] at C2 hcell hdl
      have C3 := Lib.hid (fun (wx : World) (h : Bls wx w.heap.size q) => bls_write w.heap.size q gv wx h (by omega))
      have HQ : Hid (q ++ gv = catB G (j + 1)) := Lib.hid (by rw [hq.out]; exact hcj)
      clear hp1 hp2 hsv' hgv hgv2 hcj hww hss hd
      go_wp2_with (first
        | (go_at_call 53; (with_reducible refine (C2.out _ (stab_of HT.out hb (Nat.le_refl _))).mono ?_); rintro e w2 ⟨rfl, hb2⟩)
        | (go_at_call 36; (with_reducible refine (C3.out _ (hB.go hb2)).mono ?_); rintro e w3 ⟨rfl, hB3, hb3, hk3⟩))
      have hrow3 := (hrow.below hb2 hrow.lt).others hk3 hgb (by decide)
      go_roundw
      case rel => exact ⟨j + 1, q ++ gv, by omega, by go_num, HQ, hB3, hrow3, (hb.trans (hb2.mono hb.size)).trans hb3⟩
      case measure => simp [intOf]; omega
    · obtain rfl : j = 36 := by omega
      have C4 := Lib.hid (bls_string w.heap.size q wr hB)
      have C5 := Lib.hid (fun (wx : World) (h : STab wx) => short_b q wx (by omega) h)
      have HP2 : Hid (recB m vs = shB q) := Lib.hid (by rw [hq.out]; exact HP.out)
      go_wp2_with (first
        | (go_at_call 40; (with_reducible refine C4.out.mono ?_); rintro e w1 ⟨rfl, hb1⟩)
        | (go_at_call 52; (with_reducible refine (C5.out _ (stab_of HT.out (hb.trans hb1) (Nat.le_refl _))).mono ?_); rintro e w2 ⟨rfl, hb2⟩))
      go_ret2
      exact ⟨by rw [HP2.out]; rfl, (hb.trans hb1).trans (hb2.mono (Nat.le_trans hb.size hb1.size))⟩
set_option maxRecDepth 100000 in
theorem recover_b (m vs : ByteArray) (w : World) (hm : m.size ≤ 999990) (hT : STab w) :
    Calls Tryd.prog 43 #[.string m, .string vs] w fun e w' => e = .returned (recV m vs) ∧ Below w.heap.size w w' := by
  by_cases h : vs.size = 576
  · rw [recV_ok h]; exact recover_ok m vs w h hm hT
  · rw [recV_no h]
    clear hT
    go_enter Tryd.func43, Tryd.ntmps43
    go_wp2
    go_ret2
    exact ⟨rfl, Below.refl _ _⟩
set_option maxHeartbeats 800000 in
set_option maxRecDepth 100000 in
theorem rrecover_ok (m vs : ByteArray) (w : World) (hv : vs.size = 576) (hm : m.size ≤ 999990) :
    Calls Tryd.prog 46 #[.string m, .string vs] w fun e w' => e = .returned (.tuple #[.string (recB m vs), .int .i64 0]) ∧ Below w.heap.size w w' := by
  have WK := Lib.hid (fun (wx : World) (v : ByteArray) (c : Int) (d : Nat) (hd : d ≤ 3) (hv : v.size = 16) => rwalk_b v c d 3 (3 - d) wx (by omega) (by omega) (by decide) hv)
  have SZ : Hid (∀ i, i < 36 → (vs.extract (16 * i) (16 * i + 16)).size = 16) := Lib.hid fun i hi => by rw [ByteArray.size_extract, hv]; omega
  have WZ : Hid (∀ v c f n, v.size = 16 → (wkB v c f n).size = 16) := Lib.hid fun v c f n h => wkB_size _ _ _ _ h
  have DG := Lib.hid (rdigits_any m w hm)
  have HP : Hid (recB m vs = shB (catB (fun c : Nat => wkB (vs.extract (16 * c) (16 * c + 16)) c (dgs (h8 m) c) (3 - dgs (h8 m) c)) 36)) := Lib.hid rfl
  obtain ⟨H, hH⟩ : ∃ H, H = h8 m := ⟨_, rfl⟩
  rw [← hH] at DG HP
  clear hH
  obtain ⟨G, hG⟩ : ∃ G : Nat → ByteArray, G = fun c : Nat => wkB (vs.extract (16 * c) (16 * c + 16)) c (dgs H c) (3 - dgs H c) := ⟨_, rfl⟩
  rw [← hG] at HP
  have HGv : Hid (∀ j : Nat, wkB (vs.extract (16 * j) (16 * j + 16)) j (dgs H j) (3 - dgs H j) = G j) := Lib.hid fun j => by rw [hG]
  have HGs : Hid (∀ j, j ≤ 36 → (catB G j).size = 16 * j) := Lib.hid fun j hj => catB_size36 G (fun i hi => by rw [hG]; exact wkB_size _ _ _ _ (SZ.out i hi)) j hj
  have HC : Hid (∀ j, catB G j ++ G j = catB G (j + 1)) := Lib.hid fun j => rfl
  clear hG
  go_enter Tryd.func46, Tryd.ntmps46
  go_wp2_with (go_at_call 63; (with_reducible refine DG.out.mono ?_); rintro e w1 ⟨v1, rfl, hO1, b1⟩; obtain ⟨g, cap, rfl, hgB, hc36, hcm, hrow⟩ := own_some hO1 (by decide); clear hO1)
  unfold maxLen at hcm
  go_loopw [6, 15] (fun x i wr => ∃ j : Nat, ∃ q : ByteArray, j ≤ 36 ∧ i = .int .i64 j ∧ x = .string q ∧ Hid (q = catB G j) ∧ Row wr g 3 cap (digL H 36) ∧ Below w.heap.size w wr) (fun _ i _ => 36 - (intOf i).toNat)
  case atStart => exact ⟨0, _, Nat.zero_le _, rfl, rfl, Lib.hid rfl, hrow, b1⟩
  case round =>
    clear b1 hrow
    obtain ⟨j, q, hj, rfl, rfl, hq, hrow, hb⟩ := hrel
    have hqs : q.size ≤ 1000 := by rw [hq.out, HGs.out j hj]; omega
    have hbs := hb.size
    by_cases hlt : j < 36
    · have hcell := hrow.cellAt (digL_get H 36 j hlt)
      have hdl := dgs_le H j
      have hss := SZ.out j hlt
      have hww := WZ.out _ (j : Int) (dgs H j) (3 - dgs H j) hss
      obtain ⟨p1, hp1⟩ : ∃ p1, p1 = 16 * j := ⟨_, rfl⟩
      obtain ⟨p2, hp2⟩ : ∃ p2, p2 = 16 * j + 16 := ⟨_, rfl⟩
      obtain ⟨sv, hsv⟩ : ∃ sv, vs.extract p1 p2 = sv := ⟨_, rfl⟩
      have hsv' := hsv
      rw [hp1, hp2] at hsv'
      rw [hsv'] at hss hww
      have i1 : (j : Int) * 16 = (p1 : Int) := by omega
      have i2 : ((j : Int) + 1) * 16 = (p2 : Int) := by omega
      have l1 : (p1 : Int) ≤ (p2 : Int) := by omega
      have l2 : p2 ≤ vs.size := by omega
      have hgv := HGv.out j
      rw [hsv'] at hgv
      have C2 := Lib.hid (fun (wx : World) => WK.out wx sv j (dgs H j) hdl hss)
      rw [hgv] at C2 hww
      have hcj := HC.out j
      obtain ⟨gv, hgv2⟩ : ∃ gv, gv = G j := ⟨_, rfl⟩
      rw [← hgv2] at C2 hww hcj
      obtain ⟨d, hd⟩ : ∃ d, d = dgs H j := ⟨_, rfl⟩
      rw [← hd] at C2 hcell hdl
      have hgs : gv.size ≤ 16 := by omega
      obtain ⟨q2, hq2⟩ : ∃ q2, q ++ gv = q2 := ⟨_, rfl⟩
      have hq2s : q2.size ≤ 2000 := by rw [← hq2, ByteArray.size_append]; omega
      have HQ : Hid (q2 = catB G (j + 1)) := Lib.hid (by rw [← hq2, hq.out]; exact hcj)
      clear hp1 hp2 hsv' hgv hgv2 hcj hww hss hd
      go_wp2_with (first
        | (go_at_call 56; (with_reducible refine (C2.out _).mono ?_); rintro e w2 ⟨rfl, hb2⟩))
      have hrow3 := (hrow.below hb2 hrow.lt)
      go_roundw
      case rel => exact ⟨j + 1, q2, by omega, by go_num, rfl, HQ, hrow3, hb.trans (hb2.mono hb.size)⟩
      case measure => simp [intOf]; omega
    · obtain rfl : j = 36 := by omega
      have C5 := Lib.hid (fun (wx : World) => rshort_b q wx (by omega))
      have HP2 : Hid (recB m vs = shB q) := Lib.hid (by rw [hq.out]; exact HP.out)
      go_wp2_with (go_at_call 23; (with_reducible refine (C5.out _).mono ?_); rintro e w2 ⟨rfl, hb2⟩)
      go_ret2
      exact ⟨by rw [HP2.out]; rfl, hb.trans (hb2.mono hb.size)⟩
set_option maxRecDepth 100000 in
theorem rrecover_b (m vs : ByteArray) (w : World) (hm : m.size ≤ 999990) :
    Calls Tryd.prog 46 #[.string m, .string vs] w fun e w' => e = .returned (recV m vs) ∧ Below w.heap.size w w' := by
  by_cases h : vs.size = 576
  · rw [recV_ok h]; exact rrecover_ok m vs w h hm
  · rw [recV_no h]
    go_enter Tryd.func46, Tryd.ntmps46
    go_wp2
    go_ret2
    exact ⟨rfl, Below.refl _ _⟩
end Go.Proofs.YtpophimnoakinaaDoor
