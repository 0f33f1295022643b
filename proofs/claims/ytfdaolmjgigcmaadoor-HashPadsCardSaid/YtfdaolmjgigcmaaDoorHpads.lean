/- The walk of HashPads: what the padded string looks like. -/
import Derived.Test.YtfdaolmjgigcmaaDoorHlaw
import Derived.Deep.DeepCutAuto
import Derived.Test.YtfdaolmjgigcmaaDoorSched
namespace Go.Proofs.YtfdaolmjgigcmaaDoor
open Go.ChangeShapes Go.WideShapes Go.ChangeAt Go.RowKit
set_option linter.unusedVariables false
set_option linter.unusedSimpArgs false

theorem i64_or_add (a b : Nat) (ha : a < 1099511627776) (hb : b < 256) : bits .or .i64 ((a : Int) * 256) (b : Int) = ((a * 256 + b : Nat) : Int) := by
  have e1 : (BitVec.ofInt 64 ((a : Int) * 256)).toNat = a * 256 := by rw [BitVec.toNat_ofInt]; omega
  have e2 : (BitVec.ofInt 64 (b : Int)).toNat = b := by rw [BitVec.toNat_ofInt]; omega
  show IntKind.i64.wrap ((BitVec.ofInt 64 ((a : Int) * 256) ||| BitVec.ofInt 64 (b : Int)).toNat : Int) = _
  rw [BitVec.toNat_or, e1, e2]
  have e3 : a * 256 ||| b = a * 256 + b := by
    have := Nat.shiftLeft_add_eq_or_of_lt (i := 8) (b := b) (by omega) a
    rw [Nat.shiftLeft_eq] at this
    exact this.symm
  rw [e3, IntKind.wrap_i64]
  omega
/-- What the padded string of X holds, place by place. -/
theorem pad_at (X : List UInt8) (p : ByteArray) (hp : p = ⟨(padL X X.length).toArray⟩) :
    p.size = X.length + 1 + (119 - X.length % 64) % 64 + 8 ∧ (∀ h : X.length < p.size, p[X.length]'h = 128) ∧
    (∀ i (h : i < p.size), X.length + 1 ≤ i → i < p.size - 8 → p[i]'h = 0) ∧
    (∀ k (h : p.size - 8 + k < p.size), k < 8 → ((p[p.size - 8 + k]'h).toNat : Int) = ((8 * X.length / 2 ^ (8 * (7 - k)) % 256 : Nat) : Int)) ∧
    (∀ x : ByteArray, x.data.toList = X → p.extract 0 X.length = x) := by
  have hl : p.data.toList = padL X X.length := by rw [hp]
  have hs : p.size = X.length + 1 + (119 - X.length % 64) % 64 + 8 := by
    have : p.size = (padL X X.length).length := by rw [← hl]; simp
    rw [this, padL_length]
  obtain ⟨z, hz⟩ : ∃ z, z = (119 - X.length % 64) % 64 := ⟨_, rfl⟩
  have hP : padL X X.length = X ++ ([128] ++ (List.replicate z 0 ++ be8 (8 * X.length))) := by rw [hz]; rfl
  rw [← hz] at hs
  have g : ∀ i (h : i < p.size), p[i]'h = (padL X X.length).getD i 0 := fun i h => by rw [← hl, get_of p i h]
  refine ⟨by rw [hs, hz], ?_, ?_, ?_, ?_⟩
  · intro h
    rw [g, hP]
    simp [List.getD]
  · intro i h h1 h2
    rw [g, hP]
    rw [hs] at h2
    simp only [List.getD]
    rw [List.getElem?_append_right (by omega), List.getElem?_append_right (by simp; omega), List.getElem?_append_left (by simp; omega), List.getElem?_replicate_of_lt (by simp; omega)]
    rfl
  · intro k h hk
    rw [g, hP]
    simp only [List.getD]
    rw [List.getElem?_append_right (by omega), List.getElem?_append_right (by simp; omega), List.getElem?_append_right (by simp; omega)]
    rw [show p.size - 8 + k - X.length - [(128 : UInt8)].length - (List.replicate z (0 : UInt8)).length = k by simp; omega]
    unfold be8
    rw [List.getElem?_map, List.getElem?_range hk]
    show ((UInt8.ofNat (8 * X.length / 2 ^ (8 * (7 - k)))).toNat : Int) = _
    rw [UInt8.toNat_ofNat']
  · intro x hx
    apply ByteArray.ext
    apply Array.toList_inj.1
    rw [ext_data, List.drop_zero, hl, hP, hx, List.take_append_of_le_length (Nat.le_refl _), List.take_length]
theorem be_step (N k : Nat) (hk : k < 8) : N / 2 ^ (8 * (8 - k)) * 256 + N / 2 ^ (8 * (7 - k)) % 256 = N / 2 ^ (8 * (7 - k)) := by
  have e : 2 ^ (8 * (8 - k)) = 2 ^ (8 * (7 - k)) * 256 := by
    rw [show 8 * (8 - k) = 8 * (7 - k) + 8 by omega, Nat.pow_add]
  rw [e, ← Nat.div_div_eq_div_mul]
  omega

set_option maxHeartbeats 800000 in
set_option maxRecDepth 100000 in
theorem pads_tail (x1 : ByteArray) (s : ByteArray) (more : Int) (w : World) (M : Nat) (hM : M ≤ 200) (hMs : M ≤ s.size) (hx1 : s.extract 0 M = x1) (hcase : (s.size ≤ 200 ∧ M = s.size) ∨ (200 < s.size ∧ M = 200)) (m0 : 0 ≤ more) (m1 : more ≤ 65535) (hT : STab w) :
    Calls Tryd.prog 5 #[.string s, .int .u16 more] w fun e w' => e = .returned (.bool true) ∧ Below w.heap.size w w' := by
  obtain ⟨i0, hi, hz0, hz1, hz2⟩ := info_parts Tryd.infob
  obtain ⟨N, hN⟩ : ∃ k : Nat, more % 200 = (k : Int) := ⟨(more % 200).toNat, by omega⟩
  have hN3 : N < 200 := by omega
  obtain ⟨z, hz⟩ : ∃ z : ByteArray, z = ⟨(List.replicate N (0 : UInt8)).toArray⟩ := ⟨_, rfl⟩
  have hzs : z.size = N := by rw [hz]; exact zeros_size N
  have C1 : Hid (∀ (w1 : World) (B : Nat) (v : Value), w1.ownsRow B 5 1 v N (madeCells (Value.int .u8 0).cells (N * 1)).toList → (convert 24 9 v).run Tryd.prog w1 = .ok (.string z) w1) := Lib.hid (fun w1 B v h => by rw [hz]; exact zeros_string h)
  obtain ⟨x, hx⟩ : ∃ q : ByteArray, x1 ++ z = q := ⟨_, rfl⟩
  have hx1s : x1.size = M := by rw [← hx1, ext_size _ _ _ (by omega) hMs]; omega
  have hxs : x.size ≤ 400 := by rw [← hx, ByteArray.size_append, hzs, hx1s]; omega
  obtain ⟨p, hp⟩ : ∃ p : ByteArray, p = ⟨(padL x.data.toList x.data.toList.length).toArray⟩ := ⟨_, rfl⟩
  have hxl : x.data.toList.length = x.size := by simp
  obtain ⟨a1, a2, a3, a4, a5⟩ := pad_at x.data.toList p hp
  have a5' := a5 x rfl
  rw [hxl] at a1 a2 a3 a4 a5'
  have PV := Lib.hid (fun (wx : World) => Pad_any x wx (by omega))
  have hpv : padV x = .tuple #[.string p, .int .i64 0] := by rw [padV, if_pos (by omega), hp, hxl]
  rw [hpv] at PV
  have hp64 : (p.size : Int) % 64 = 0 := by
    obtain ⟨m, hm⟩ : ∃ m, m = x.size % 64 := ⟨_, rfl⟩
    have : m < 64 := by omega
    rw [← hm] at a1
    omega
  have hp9 : x.size + 9 ≤ p.size := by omega
  have hp72 : p.size ≤ x.size + 72 := by omega
  have hlen9 : (x.size : Int) + 9 ≤ (p.size : Int) := by omega
  have hlen72 : (p.size : Int) ≤ (x.size : Int) + 72 := by omega
  have hxp : x.size < p.size := by omega
  have hxp' : (x.size : Int) < (p.size : Int) := by omega
  have A3 := Lib.hid a3
  have A4 := Lib.hid a4
  have HT := Lib.hid hT
  have hB : Below w.heap.size w w := Below.refl _ _
  clear hz hp hxl a1 a3 a4 a5 hpv hT
  have hmin : min (s.size : Int) 200 = (M : Int) := by omega
  have hM0 : (0 : Int) ≤ (M : Int) := by omega
  have hMs' : (M : Int) ≤ (s.size : Int) := by omega
  have hmod : more.tmod 200 = (N : Int) := by rw [Int.tmod_eq_emod, if_pos (.inl m0), hN]; simp
  go_enter Tryd.func5, Tryd.ntmps5
  go_upto_region 1 with fail
  go_cut [5] from 11 (fun v wx => v = .string x ∧ Below w.heap.size w wx)
  case first =>
    rcases hcase with ⟨hc1, hc2⟩ | ⟨hc1, hc2⟩
    · have hc3 : (s.size : Int) ≤ 200 := by omega
      subst hc2
      refine wp_region_sched [0, 1, 2, 3, 4, 5, 6] [7, 8, 9, 10] (by kernel_rfl) (by kernel_rfl) (fun _ d _ _ _ h => by cases d <;> exact h) ?_
      simp only [opsAt, List.filterMap_cons, List.filterMap_nil, List.getElem?_toArray, List.getElem?_cons_zero, List.getElem?_cons_succ]
      iterate 7 (refine steady_step ?_ ?_ ?_ (fun K hK => ?_); rotate_left; (rfl); (intro w0; go_simp; (try rfl)); (go_simp; refine hK _ ?_; clear hK K))
      refine steady_nil ?_
      have hBd : Below w.heap.size w w.drew := hB.drew
      generalize w.drew = wd at hBd ⊢
      change wpList _ _ _ [_, _, _, _] _ _
      go_wp2_with (at_make; refine wpList_make_full _ rfl _ _ 24 rfl _ 5 i0 (.int .u8 0) 1 Tryd.underlying24 hi hz0 hz1 .u16 .u16 _ _ N rfl rfl rfl rfl (by rw [hz2]; omega) (by unfold maxLen; omega) (Nat.le_refl _) ?_; intro w1 hown hgrow; replace hBd := hBd.grown hgrow hBd.size (fun _ e => by cases e); have hcv := C1.out _ _ _ hown; clear hown hgrow)
      go_meet
      exact ⟨rfl, hBd⟩
    · have hc3 : ¬ (s.size : Int) ≤ 200 := by omega
      have hc4 : (200 : Int) ≤ (s.size : Int) := by omega
      subst hc2
      rw [show ((200 : Nat) : Int) = 200 from rfl] at *
      refine wp_region_sched [0, 1, 2, 3, 4, 5, 6] [7, 8, 9, 10] (by kernel_rfl) (by kernel_rfl) (fun _ d _ _ _ h => by cases d <;> exact h) ?_
      simp only [opsAt, List.filterMap_cons, List.filterMap_nil, List.getElem?_toArray, List.getElem?_cons_zero, List.getElem?_cons_succ]
      iterate 7 (refine steady_step ?_ ?_ ?_ (fun K hK => ?_); rotate_left; (rfl); (intro w0; go_simp; (try rfl)); (go_simp; refine hK _ ?_; clear hK K))
      refine steady_nil ?_
      have hBd : Below w.heap.size w w.drew := hB.drew
      generalize w.drew = wd at hBd ⊢
      change wpList _ _ _ [_, _, _, _] _ _
      go_wp2_with (at_make; refine wpList_make_full _ rfl _ _ 24 rfl _ 5 i0 (.int .u8 0) 1 Tryd.underlying24 hi hz0 hz1 .u16 .u16 _ _ N rfl rfl rfl rfl (by rw [hz2]; omega) (by unfold maxLen; omega) (Nat.le_refl _) ?_; intro w1 hown hgrow; replace hBd := hBd.grown hgrow hBd.size (fun _ e => by cases e); have hcv := C1.out _ _ _ hown; clear hown hgrow)
      go_meet
      exact ⟨rfl, hBd⟩
  case rest =>
    clear hB hmin hmod C1
    obtain ⟨rfl, hB⟩ := hcut
    have d1 : decide ((p.size : Int) < (x.size : Int) + 9) = false := decide_eq_false (by omega)
    have d2 : decide ((x.size : Int) + 72 < (p.size : Int)) = false := decide_eq_false (by omega)
    obtain ⟨P8, hP8⟩ : ∃ P8 : Nat, P8 + 8 = p.size := ⟨p.size - 8, by omega⟩
    have hi8 : (p.size : Int) - 8 = (P8 : Int) := by omega
    have hxP : x.size + 1 ≤ P8 := by omega
    go_wp2_with (go_at_call 8; (with_reducible refine (PV.out _).mono ?_); rintro e w2 ⟨rfl, hb2⟩)
    have hB2 := hB.trans (hb2.mono hB.size)
    clear hB hb2 hp64
    go_loopw [8, 9] (fun n i wr => ∃ k : Nat, k ≤ 8 ∧ i = .int .i64 (P8 + k : Nat) ∧ n = .int .i64 (8 * x.size / 2 ^ (8 * (8 - k)) : Nat) ∧ Below w.heap.size w wr) (fun _ i _ => P8 + 8 - (intOf i).toNat)
    case atStart =>
      refine ⟨0, by omega, rfl, ?_, hB2⟩
      rw [show 8 * x.size / 2 ^ (8 * (8 - 0)) = 0 by rw [show 2 ^ (8 * (8 - 0)) = 18446744073709551616 from rfl]; omega]
      rfl
    case round =>
      clear hB2
      obtain ⟨k, hk, rfl, rfl, hB⟩ := hrel
      by_cases hlt : k < 8
      · obtain ⟨a, ha⟩ : ∃ a, a = 8 * x.size / 2 ^ (8 * (8 - k)) := ⟨_, rfl⟩
        obtain ⟨c, hc⟩ : ∃ c, c = 8 * x.size / 2 ^ (8 * (7 - k)) := ⟨_, rfl⟩
        obtain ⟨b, hb⟩ : ∃ b, b = 8 * x.size / 2 ^ (8 * (7 - k)) % 256 := ⟨_, rfl⟩
        have hb256 : b < 256 := by rw [hb]; exact Nat.mod_lt _ (by decide)
        have hal : a ≤ 3200 := by rw [ha]; exact Nat.le_trans (Nat.div_le_self _ _) (by omega)
        have hst := be_step (8 * x.size) k hlt
        rw [← ha, ← hb, ← hc] at hst
        obtain ⟨j, hj⟩ : ∃ j, j = P8 + k := ⟨_, rfl⟩
        have hjp : j < p.size := by omega
        have hjp' : (j : Int) < (p.size : Int) := by omega
        have hpj : ((p[j]'hjp).toNat : Int) = (b : Int) := by
          have e : j = p.size - 8 + k := by omega
          subst e
          rw [A4.out k hjp hlt, hb]
        have hor : bits .or .i64 ((a : Int) * 256) (b : Int) = (c : Int) := by rw [i64_or_add a b (by omega) hb256, hst]
        rw [← ha, ← hj]
        have HJ := Lib.hid hj
        have HC := Lib.hid hc
        clear ha hc hb hst hj
        go_wp2
        go_roundw
        case rel =>
          refine ⟨k + 1, by omega, ?_, ?_, hB⟩
          · have := HJ.out; congr 1; omega
          · rw [show 8 - (k + 1) = 7 - k by omega, ← HC.out]
        case measure => have := HJ.out; simp [intOf]; omega
      · obtain rfl : k = 8 := by omega
        rw [show 8 * x.size / 2 ^ (8 * (8 - 8)) = 8 * x.size by simp]
        rw [show ((P8 + 8 : Nat) : Int) = (p.size : Int) by omega, show ((8 * x.size : Nat) : Int) = 8 * (x.size : Int) by push_cast; rfl]
        go_wp2
        go_loopw [10] (fun i wr => ∃ j : Nat, x.size + 1 ≤ j ∧ j ≤ P8 ∧ i = .int .i64 j ∧ Below w.heap.size w wr) (fun i _ => P8 - (intOf i).toNat)
        case atStart => exact ⟨x.size + 1, by omega, hxP, rfl, hB⟩
        case round =>
          clear hB
          obtain ⟨j, hj1, hj2, rfl, hB⟩ := hrel
          by_cases hlt : j < P8
          · have hjp : j < p.size := by omega
            have hjp' : (j : Int) < (p.size : Int) := by omega
            have hp0 : p[j]'hjp = 0 := A3.out j hjp hj1 (by omega)
            go_wp2
            go_roundw
            case rel => exact ⟨j + 1, by omega, by omega, rfl, hB⟩
            case measure => simp [intOf]; omega
          · obtain rfl : j = P8 := by omega
            go_wp2_with (go_at_call 7; (with_reducible refine (awake2_any _ (HT.out.below hB)).mono ?_); rintro e w2 ⟨rfl, hb2⟩)
            go_ret
            exact ⟨rfl, hB.trans (hb2.mono hB.size)⟩

theorem pads_walk (s : ByteArray) (more : Int) (w : World) (m0 : 0 ≤ more) (m1 : more ≤ 65535) (hT : STab w) :
    Calls Tryd.prog 5 #[.string s, .int .u16 more] w fun e w' => e = .returned (.bool true) ∧ Below w.heap.size w w' := by
  by_cases h : s.size ≤ 200
  · exact pads_tail _ s more w s.size h (Nat.le_refl _) rfl (.inl ⟨h, rfl⟩) m0 m1 hT
  · exact pads_tail _ s more w 200 (Nat.le_refl _) (by omega) rfl (.inr ⟨by omega, rfl⟩) m0 m1 hT

end Go.Proofs.YtfdaolmjgigcmaaDoor
