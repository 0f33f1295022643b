/- Digits of both sides: a list of 36 numbers in new memory. -/
import Derived.Test.YtpophimnoakinaaDoorOfn
namespace Go.Proofs.YtpophimnoakinaaDoor
open Go.ChangeShapes Go.WideShapes Go.ChangeAt Go.RowKit
set_option linter.unusedVariables false
set_option linter.unusedSimpArgs false

theorem Tryd.infoint : (Tryd.prog.info? 3).map (fun i => (i.zero, i.size, i.bytes)) = some (some (.int .i64 0), 1, 8) := by kernel_rfl
theorem i64_and3 (n : Int) : bits .and .i64 n 3 = n % 4 := by
  have h127 : (BitVec.ofInt 64 3).toNat = 2 ^ 2 - 1 := by decide
  have key : (BitVec.ofInt 64 n &&& BitVec.ofInt 64 3).toNat = (n % ((2 ^ 64 : Nat) : Int)).toNat % 2 ^ 2 := by
    rw [BitVec.toNat_and, BitVec.toNat_ofInt, h127, Nat.and_two_pow_sub_one_eq_mod]
  show IntKind.i64.wrap ((BitVec.ofInt 64 n &&& BitVec.ofInt 64 3).toNat : Nat) = n % 4
  rw [key, IntKind.wrap_i64]
  omega
/-- An own row of at least one element: where it lies. -/
theorem own_some {w : World} {B e n : Nat} {v : Value} {xs : List Value} (h : w.ownsRow B e 1 v n xs) (hn : 0 < n) : ∃ g cap, v = .slice (some ⟨g, 0, none⟩) n cap ∧ B ≤ g ∧ n ≤ cap ∧ cap ≤ maxLen ∧ Row w g e cap xs := by
  obtain ⟨hl, h2⟩ := h
  rcases h2 with ⟨_, h0⟩ | ⟨g, cap, cur, rfl, hg, hh, hc, hm, hz, ht⟩
  · omega
  · exact ⟨g, cap, rfl, hg, hc, hm, (Row.of_owns ⟨hl, .inr ⟨g, cap, cur, rfl, hg, hh, hc, hm, hz, ht⟩⟩).1⟩
theorem own_form {w : World} {B e n : Nat} {v : Value} {xs : List Value} (h : w.ownsRow B e 1 v n xs) : ∃ ao cap, v = .slice ao n cap ∧ n ≤ cap ∧ cap ≤ maxLen := by
  rcases h.2 with ⟨rfl, rfl⟩ | ⟨g, cap, cur, rfl, _, _, h1, h2, _⟩
  · exact ⟨none, 0, rfl, Nat.le_refl _, Nat.zero_le _⟩
  · exact ⟨_, cap, rfl, h1, h2⟩
/-- The lowest count digits of n in base 4, the highest one first. -/
def digs4 (n count : Nat) : List Value := (List.range count).map fun i => .int .i64 ((n / 2 ^ (2 * (count - 1 - i)) % 4 : Nat) : Int)
theorem digs4_length (n count : Nat) : (digs4 n count).length = count := by simp [digs4]
theorem digs4_take (n count j : Nat) (h : j < count) : (digs4 n count).take (j + 1) = (digs4 n count).take j ++ [.int .i64 ((n / 2 ^ (2 * (count - 1 - j)) % 4 : Nat) : Int)] := by
  rw [List.take_succ_eq_append_getElem (by simp [digs4]; exact h)]
  simp [digs4]
theorem digL_byte (h : List UInt8) (i : Nat) (hi : i < 8) : digL h (4 * (i + 1)) = digL h (4 * i) ++ digs4 (h.getD i 0).toNat 4 := by
  have e : ∀ k, k < 4 → dgs h (4 * i + k) = (h.getD i 0).toNat / 2 ^ (2 * (4 - 1 - k)) % 4 := fun k hk => by
    unfold dgs dg
    rw [if_pos (by omega), show (4 * i + k) / 4 = i by omega, show (4 * i + k) % 4 = k by omega, Nat.pow_mul]
  rw [show 4 * (i + 1) = 4 * i + 1 + 1 + 1 + 1 by omega, digL_succ, digL_succ, digL_succ, digL_succ]
  have e0 := e 0 (by omega); have e1 := e 1 (by omega); have e2 := e 2 (by omega); have e3 := e 3 (by omega)
  rw [Nat.add_zero] at e0
  rw [e0, e1, show 4 * i + 1 + 1 = 4 * i + 2 from rfl, e2, show 4 * i + 2 + 1 = 4 * i + 3 from rfl, e3]
  simp [digs4, List.range_succ]
theorem digL_end (h : List UInt8) : digL h 36 = digL h 32 ++ digs4 (cmp h 32) 4 := by
  have e : ∀ k, k < 4 → dgs h (32 + k) = cmp h 32 / 2 ^ (2 * (4 - 1 - k)) % 4 := fun k hk => by
    unfold dgs
    rw [if_neg (by omega), Nat.pow_mul, show 35 - (32 + k) = 4 - 1 - k by omega]
  rw [show (36 : Nat) = 32 + 1 + 1 + 1 + 1 from rfl, digL_succ, digL_succ, digL_succ, digL_succ]
  have e0 := e 0 (by omega); have e1 := e 1 (by omega); have e2 := e 2 (by omega); have e3 := e 3 (by omega)
  rw [Nat.add_zero] at e0
  rw [e0, e1, show 32 + 1 + 1 = 32 + 2 from rfl, e2, show 32 + 2 + 1 = 32 + 3 from rfl, e3]
  simp [digs4, List.range_succ]
/-- The digits of h in new memory. -/
def DigsAt (B : Nat) (h : List UInt8) (w0 : World) (e : Ending) (w' : World) : Prop := ∃ v, e = .returned v ∧ w'.ownsRow B 3 1 v 36 (digL h 36) ∧ Below B w0 w'

set_option maxHeartbeats 800000 in
set_option maxRecDepth 100000 in
theorem appendD_any (B k : Nat) (v : Value) (n count : Nat) (xs : List Value) (w : World) (hO : w.ownsRow B 3 1 v k xs) (hk : k ≤ 1000) (hc8 : count ≤ 8) (hn : n < 2 ^ 62) (hB : B ≤ w.heap.size) :
    Calls Tryd.prog 92 #[v, .int .i64 n, .int .i64 count] w fun e w' => ∃ v', e = .returned v' ∧ w'.ownsRow B 3 1 v' (k + count) (xs ++ digs4 n count) ∧ Below B w w' := by
  obtain ⟨i0, hi, hz0, hz1, hz2⟩ := info_parts Tryd.infoint
  obtain ⟨a0, c0, rfl, -, -⟩ := own_form hO
  go_enter Tryd.func92, Tryd.ntmps92
  go_wp2
  go_loopw [0, 9] (fun v i wr => ∃ j : Nat, ∃ ao cap, j ≤ count ∧ i = .int .i64 j ∧ v = .slice ao (k + j) cap ∧ wr.ownsRow B 3 1 (.slice ao (k + j) cap) (k + j) (xs ++ (digs4 n count).take j) ∧ Below B w wr) (fun _ i _ => count - (intOf i).toNat)
  case atStart => exact ⟨0, a0, c0, Nat.zero_le _, rfl, rfl, by simpa using hO, Below.refl _ _⟩
  case round =>
    obtain ⟨j, ao, cap, hj, rfl, rfl, hr, hb⟩ := hrel
    by_cases hlt : j < count
    · obtain ⟨m, hm⟩ : ∃ m, m = n / 2 ^ (2 * (count - 1 - j)) % 4 := ⟨_, rfl⟩
      have hbt : bits BinOp.and IntKind.i64 (↑n / 2 ^ (2 * (count - 1 - j))) 3 = (m : Int) := by rw [i64_and3, hm]; simp
      have HM : Hid (m = n / 2 ^ (2 * (count - 1 - j)) % 4) := hm
      have hbs := hb.size
      clear hm
      go_wp2_with (at_builtin; refine wpList_append_own _ rfl (.tmp 12) (.tmp 21) 70 rfl B 3 i0 (.int .i64 0) 1 8 Tryd.underlying70 hi hz0 hz1 hz2 rfl (by decide) _ (k + j) _ rfl (hr.alloc _) ⟨wr.heap.size, 0, none⟩ 1 1 [.int .i64 m] rfl rfl (cells_new _ _ _ _ rfl) (by intro u hu; simp at hu; subst hu; rfl) (by unfold maxLen; omega) (by omega) (by simp; omega) ?_; intro v2 w1 hO2 hg2 _)
      obtain ⟨a2, c2, rfl, -, -⟩ := own_form hO2
      have hb2 := obelow (hb.alloc (o := .cells #[.int .i64 m] 3) (by omega)) (hr.alloc _) hg2 (by simp; omega)
      have hr2 : w1.ownsRow B 3 1 (.slice a2 (k + (j + 1)) c2) (k + (j + 1)) (xs ++ (digs4 n count).take (j + 1)) := by
        rw [digs4_take n count j hlt, ← HM.out, ← List.append_assoc]
        exact hO2
      clear hO2 hg2 hr hb hbt
      go_wp2
      go_roundw
      case rel => exact ⟨j + 1, a2, c2, by omega, by go_num, rfl, hr2, hb2⟩
      case measure => simp [intOf]; omega
    · obtain rfl : j = count := by omega
      go_wp2
      go_ret
      rw [List.take_of_length_le (by rw [digs4_length]; omega)] at hr
      exact ⟨_, rfl, hr, hb⟩
theorem appendD4 (B k : Nat) (v : Value) (n : Nat) (xs : List Value) (w : World) (hO : w.ownsRow B 3 1 v k xs) (hk : k ≤ 1000) (hn : n < 2 ^ 62) (hB : B ≤ w.heap.size) :
    Calls Tryd.prog 92 #[v, .int .i64 n, .int .i64 4] w fun e w' => ∃ v', e = .returned v' ∧ w'.ownsRow B 3 1 v' (k + 4) (xs ++ digs4 n 4) ∧ Below B w w' := appendD_any B k v n 4 xs w hO hk (by omega) hn hB
set_option maxHeartbeats 1600000 in
set_option maxRecDepth 100000 in
theorem digitsOf_any (s : ByteArray) (w : World) (hs : s.size = 8) : Calls Tryd.prog 83 #[.string s] w (DigsAt w.heap.size s.data.toList w) := by
  obtain ⟨i0, hi, hz0, hz1, hz2⟩ := info_parts Tryd.infoint
  obtain ⟨L, hL⟩ : ∃ L, L = s.data.toList := ⟨_, rfl⟩
  have HG : Hid (∀ (j : Nat) (hj : j < s.size), L.getD j 0 = s[j]) := Lib.hid fun j hj => by rw [hL, get_of s j hj]
  rw [← hL]
  have AP := Lib.hid (fun (wx : World) (v : Value) (k n : Nat) (xs : List Value) (hO : wx.ownsRow w.heap.size 3 1 v k xs) (hk : k ≤ 1000) (hn : n < 2 ^ 62) (hB : w.heap.size ≤ wx.heap.size) => appendD4 w.heap.size k v n xs wx hO hk hn hB)
  have HL := Lib.hid hL
  clear hL
  go_enter Tryd.func83, Tryd.ntmps83
  go_wp2_with (at_make; refine wpList_make_own _ rfl _ _ 70 rfl w.heap.size 3 i0 (.int .i64 0) 1 Tryd.underlying70 hi hz0 hz1 .i64 .i64 _ 36 rfl rfl (by omega) (by rw [hz2]; omega) (by unfold maxLen; omega) (Nat.le_refl _) ?_; intro w1 hown hgrow)
  have hb0 := (Below.refl w.heap.size w).grown hgrow (Nat.le_refl _) (fun _ e => by cases e)
  clear hgrow
  go_loopw [3, 11] (fun v i wr => ∃ j : Nat, ∃ ao cap, j ≤ 8 ∧ i = .int .i64 j ∧ v = .slice ao (4 * j) cap ∧ wr.ownsRow w.heap.size 3 1 (.slice ao (4 * j) cap) (4 * j) (digL L (4 * j)) ∧ Below w.heap.size w wr) (fun _ i _ => 8 - (intOf i).toNat)
  case atStart => exact ⟨0, _, _, Nat.zero_le _, rfl, rfl, hown, hb0⟩
  case round =>
    clear hown hb0
    obtain ⟨j, ao, cap, hj, rfl, rfl, hr, hb⟩ := hrel
    by_cases hlt : j < 8
    · have hjs : j < s.size := by omega
      have hby := HG.out j hjs
      obtain ⟨c, hc⟩ : ∃ c, s[j] = c := ⟨_, rfl⟩
      have hcl := c.toNat_lt
      have AP1 := Lib.hid (AP.out wr _ (4 * j) c.toNat _ hr (by omega) (by omega) hb.size)
      have HE : Hid (digL L (4 * j) ++ digs4 c.toNat 4 = digL L (4 * (j + 1))) := Lib.hid (by rw [digL_byte L j hlt, hby, hc])
      clear hby
      go_wp2_with (go_at_call 92; (with_reducible refine AP1.out.mono ?_); rintro e w1 ⟨v1, rfl, hO1, hb1⟩)
      obtain ⟨a1, c1, rfl, -, -⟩ := own_form hO1
      rw [HE.out] at hO1
      have hb2 := hb.trans hb1
      clear hb hb1 hr
      go_wp2
      go_roundw
      case rel => exact ⟨j + 1, a1, c1, by omega, by go_num, rfl, hO1, hb2⟩
      case measure => simp [intOf]; omega
    · obtain rfl : j = 8 := by omega
      obtain ⟨g, c0, hv, hgB, hc0, hcm, hrow⟩ := own_some hr (by omega)
      obtain ⟨rfl, rfl⟩ : ao = some ⟨g, 0, none⟩ ∧ cap = c0 := by cases hv; exact ⟨rfl, rfl⟩
      unfold maxLen at hcm
      have HR := Lib.hid hr
      clear hr hv
      go_wp2
      obtain ⟨wq, hwq⟩ : ∃ wq, wq = wr := ⟨_, rfl⟩
      go_loopw [5, 23] (fun x i wr2 => ∃ j c : Nat, j ≤ 32 ∧ i = .int .i64 j ∧ x = .int .i64 c ∧ Hid (c = cmp L j) ∧ wr2 = wr) (fun _ i _ => 32 - (intOf i).toNat)
      case atStart => exact ⟨0, 0, Nat.zero_le _, rfl, rfl, Lib.hid rfl, rfl⟩
      case round =>
        obtain ⟨j, c, hj, rfl, rfl, hc, rfl⟩ := hrel
        have hcl : c ≤ 3 * j := by rw [hc.out]; exact cmp_le L j
        by_cases hlt : j < 32
        · have hcell := hrow.cellAt (digL_get L (4 * 8) j (by omega))
          have hdl := dgs_le L j
          have hst : cmp L (j + 1) = cmp L j + (3 - dgs L j) := by unfold dgs; rw [if_pos hlt]; rfl
          obtain ⟨d, hd⟩ : ∃ d, d = dgs L j := ⟨_, rfl⟩
          rw [← hd] at hcell hdl hst
          have HST : Hid (c + (3 - d) = cmp L (j + 1)) := Lib.hid (by rw [hst, hc.out])
          clear hst hd
          go_wp2
          go_roundw
          case rel => exact ⟨j + 1, c + (3 - d), by omega, by go_num, by go_num, HST, trivial⟩
          case measure => simp [intOf]; omega
        · obtain rfl : j = 32 := by omega
          have AP1 := Lib.hid (AP.out wr _ (4 * 8) c _ HR.out (by omega) (by omega) hb.size)
          have HE : Hid (digL L (4 * 8) ++ digs4 c 4 = digL L 36) := Lib.hid (by rw [hc.out]; exact (digL_end L).symm)
          go_wp2_with (go_at_call 92; (with_reducible refine AP1.out.mono ?_); rintro e w1 ⟨v1, rfl, hO1, hb1⟩)
          go_ret
          rw [HE.out] at hO1
          exact ⟨v1, rfl, hO1, hb.trans hb1⟩
set_option maxRecDepth 100000 in
theorem digits_any (m : ByteArray) (w : World) (hm : m.size ≤ 999990) (hT : STab w) : Calls Tryd.prog 62 #[.string m] w (DigsAt w.heap.size (h8 m) w) := by
  have S1 := Lib.hid (sum_any m w (by omega) hT)
  obtain ⟨sm, hsm⟩ : ∃ sm : ByteArray, sm = ⟨(sumL m.data.toList).toArray⟩ := ⟨_, rfl⟩
  have hss : sm.size = 32 := by
    have : sm.size = (sumL m.data.toList).length := by rw [hsm]; show (sumL m.data.toList).toArray.size = _; simp
    rw [this, sumL_length]
  rw [← hsm] at S1
  have h8e : (sm.extract 0 8).data.toList = h8 m := by rw [toList_extract, hsm]; rfl
  have h8s : (sm.extract 0 8).size = 8 := by rw [ByteArray.size_extract, hss]; rfl
  have D1 := Lib.hid (fun wx => digitsOf_any (sm.extract 0 8) wx h8s)
  rw [h8e] at D1
  clear hsm h8e h8s
  have h8i : (8 : Int) ≤ (sm.size : Int) := by omega
  go_enter Tryd.func62, Tryd.ntmps62
  go_wp2_with (first
    | (go_at_call 55; (with_reducible refine S1.out.mono ?_); rintro e w1 ⟨rfl, hb1⟩)
    | (go_at_call 83; (with_reducible refine (D1.out _).mono ?_); rintro e w2 ⟨v2, rfl, hO2, hb2⟩))
  go_ret
  exact ⟨v2, rfl, ⟨hO2.1, hO2.2.imp id fun ⟨g, cap, cur, h0, h1, h2⟩ => ⟨g, cap, cur, h0, Nat.le_trans hb1.size h1, h2⟩⟩, hb1.trans (hb2.mono hb1.size)⟩
set_option maxHeartbeats 1600000 in
set_option maxRecDepth 100000 in
theorem rdigits_any (m : ByteArray) (w : World) (hm : m.size ≤ 999990) : Calls Tryd.prog 63 #[.string m] w (DigsAt w.heap.size (h8 m) w) := by
  obtain ⟨i0, hi, hz0, hz1, hz2⟩ := info_parts Tryd.infoint
  have S1 := Lib.hid (rsum_any m w (by omega))
  obtain ⟨sm, hsm⟩ : ∃ sm : ByteArray, sm = ⟨(sumL m.data.toList).toArray⟩ := ⟨_, rfl⟩
  have hss : sm.size = 32 := by
    have : sm.size = (sumL m.data.toList).length := by rw [hsm]; show (sumL m.data.toList).toArray.size = _; simp
    rw [this, sumL_length]
  rw [← hsm] at S1
  obtain ⟨L, hL⟩ : ∃ L, L = h8 m := ⟨_, rfl⟩
  have HG : Hid (∀ (j : Nat) (hj : j < sm.size), j < 8 → L.getD j 0 = sm[j]) := Lib.hid fun j hj hj8 => by
    rw [← get_of sm j hj, hL, hsm]
    unfold h8
    rw [List.getD, List.getD, List.getElem?_take, if_pos hj8]
  rw [← hL]
  clear hsm hL
  go_enter Tryd.func63, Tryd.ntmps63
  go_wp2_with (go_at_call 24; (with_reducible refine S1.out.mono ?_); rintro e w1 ⟨rfl, hb1⟩)
  go_loopw [4, 5, 10] (fun v x i wr => ∃ j c : Nat, ∃ ao cap, j ≤ 32 ∧ i = .int .i64 j ∧ x = .int .i64 c ∧ Hid (c = cmp L j) ∧ v = .slice ao j cap ∧ wr.ownsRow w.heap.size 3 1 (.slice ao j cap) j (digL L j) ∧ Below w.heap.size w wr) (fun _ _ i _ => 32 - (intOf i).toNat)
  case atStart => exact ⟨0, 0, none, 0, Nat.zero_le _, rfl, rfl, Lib.hid rfl, rfl, World.ownsRow_nil _ _ _ _, hb1⟩
  case round =>
    clear hb1
    obtain ⟨j, c, ao, cap, hj, rfl, rfl, hc, rfl, hr, hb⟩ := hrel
    have hcl : c ≤ 3 * j := by rw [hc.out]; exact cmp_le L j
    by_cases hlt : j < 32
    · have hq : j / 4 < sm.size := by omega
      have hby := HG.out (j / 4) hq (by omega)
      obtain ⟨bt, hbt0⟩ : ∃ bt, sm[j / 4] = bt := ⟨_, rfl⟩
      have hbl := bt.toNat_lt
      obtain ⟨d, hd⟩ : ∃ d, d = dgs L j := ⟨_, rfl⟩
      have hdl : d ≤ 3 := by rw [hd]; exact dgs_le L j
      have hdv : bits BinOp.and IntKind.i64 (wrap64 ((bt.toNat : Int) / 2 ^ (6 - 2 * (j % 4)))) 3 = (d : Int) := by
        have e1 : d = bt.toNat / 2 ^ (6 - 2 * (j % 4)) % 4 := by
          rw [hd]; unfold dgs dg
          rw [if_pos hlt, hby, hbt0, show 6 - 2 * (j % 4) = 2 * (3 - j % 4) by omega, Nat.pow_mul]
        have e2 : ((bt.toNat : Int) / 2 ^ (6 - 2 * (j % 4))) = ((bt.toNat / 2 ^ (6 - 2 * (j % 4)) : Nat) : Int) := by simp
        have e3 : bt.toNat / 2 ^ (6 - 2 * (j % 4)) ≤ bt.toNat := Nat.div_le_self _ _
        have e4 : (0 : Int) ≤ ((bt.toNat / 2 ^ (6 - 2 * (j % 4)) : Nat) : Int) := Int.natCast_nonneg _
        rw [i64_and3, e2, IntWalk.wrap64_in _ ⟨by omega, by omega⟩, e1]
        omega
      have hst : cmp L (j + 1) = cmp L j + (3 - dgs L j) := by unfold dgs; rw [if_pos hlt]; rfl
      have HST : Hid (c + (3 - d) = cmp L (j + 1)) := Lib.hid (by rw [hst, hc.out, hd])
      have HSL : Hid (digL L j ++ [.int .i64 (d : Int)] = digL L (j + 1)) := Lib.hid (by rw [digL_succ, hd])
      have hbs := hb.size
      clear hd hst hby
      go_wp2_with (at_builtin; refine wpList_append_own _ rfl (.tmp 25) (.tmp 27) 70 rfl w.heap.size 3 i0 (.int .i64 0) 1 8 Tryd.underlying70 hi hz0 hz1 hz2 rfl (by decide) _ j _ rfl (hr.alloc _) ⟨wr.heap.size, 0, none⟩ 1 1 [.int .i64 d] rfl rfl (cells_new _ _ _ _ rfl) (by intro u hu; simp at hu; subst hu; rfl) (by unfold maxLen; omega) (by omega) (by simp; omega) ?_; intro v2 w2 hO2 hg2 _)
      obtain ⟨a2, c2, rfl, -, -⟩ := own_form hO2
      have hb2 := obelow (hb.alloc (o := .cells #[.int .i64 d] 3) (by omega)) (hr.alloc _) hg2 (by simp; omega)
      rw [HSL.out] at hO2
      clear hg2 hr hb hdv
      go_wp2
      go_roundw
      case rel => exact ⟨j + 1, c + (3 - d), a2, c2, by omega, by go_num, by go_num, HST, rfl, hO2, hb2⟩
      case measure => simp [intOf]; omega
    · obtain rfl : j = 32 := by omega
      have hbs := hb.size
      obtain ⟨q0, hq0⟩ : ∃ q, q = c / 64 % 4 := ⟨_, rfl⟩
      obtain ⟨q1, hq1⟩ : ∃ q, q = c / 16 % 4 := ⟨_, rfl⟩
      obtain ⟨q2, hq2⟩ : ∃ q, q = c / 4 % 4 := ⟨_, rfl⟩
      obtain ⟨q3, hq3⟩ : ∃ q, q = c % 4 := ⟨_, rfl⟩
      have f0 : bits BinOp.and IntKind.i64 ((c : Int) / 64) 3 = (q0 : Int) := by rw [i64_and3, hq0]; omega
      have f1 : bits BinOp.and IntKind.i64 ((c : Int) / 16) 3 = (q1 : Int) := by rw [i64_and3, hq1]; omega
      have f2 : bits BinOp.and IntKind.i64 ((c : Int) / 4) 3 = (q2 : Int) := by rw [i64_and3, hq2]; omega
      have f3 : bits BinOp.and IntKind.i64 (c : Int) 3 = (q3 : Int) := by rw [i64_and3, hq3]; omega
      have HE : Hid (digL L 32 ++ [.int .i64 (q0 : Int), .int .i64 (q1 : Int), .int .i64 (q2 : Int), .int .i64 (q3 : Int)] = digL L 36) := Lib.hid (by
        rw [digL_end, ← hc.out, hq0, hq1, hq2, hq3]
        simp [digs4, List.range_succ])
      clear hq0 hq1 hq2 hq3
      go_wp2_with (at_builtin; refine wpList_append_own _ rfl (.tmp 34) (.tmp 46) 70 rfl w.heap.size 3 i0 (.int .i64 0) 1 8 Tryd.underlying70 hi hz0 hz1 hz2 rfl (by decide) _ 32 _ rfl (hr.alloc _) ⟨wr.heap.size, 0, none⟩ 4 4 [.int .i64 q0, .int .i64 q1, .int .i64 q2, .int .i64 q3] rfl rfl (cells_new _ _ _ _ rfl) (by intro u hu; simp at hu; rcases hu with rfl | rfl | rfl | rfl <;> rfl) (by unfold maxLen; omega) (by omega) (by simp; omega) ?_; intro v2 w2 hO2 hg2 _)
      go_ret
      rw [HE.out] at hO2
      exact ⟨v2, rfl, hO2, obelow (hb.alloc (o := .cells #[.int .i64 q0, .int .i64 q1, .int .i64 q2, .int .i64 q3] 3) (by omega)) (hr.alloc _) hg2 (by simp; omega)⟩
end Go.Proofs.YtpophimnoakinaaDoor
