/- The document's own reading of hexadecimal digits. -/
import Derived.Test.YtmlmdidaldcoiaaDoorVra
import Derived.BigQuiet
import Derived.Deep.QuietTactic
namespace Go.Proofs.YtmlmdidaldcoiaaDoor
open Go Go.Maps Go.ChangeShapes Go.WideShapes Go.ChangeAt Go.RowKit
set_option linter.unusedVariables false
set_option linter.unusedSimpArgs false

/-- The number of hexadecimal digits, or -1. -/
def hxI (l : List UInt8) : Int := match vhN l with | some n => (n : Int) | none => -1
/-- The number of a digit among the first k, or -1. -/
def dzI (c : UInt8) (k : Nat) : Int := match vhD c with | some x => if x < k then (x : Int) else -1 | none => -1
theorem vhC_iff (k : Nat) (c : UInt8) (hk : k < 16) : vhC k = c ↔ vhD c = some k := by
  constructor
  · rintro rfl; exact vhD_C k hk
  · intro h; exact (vhC_D h).1
theorem dz_hit {k : Nat} {c : UInt8} (hk : k < 16) (h : vhC k = c) : dzI c (k + 1) = (k : Int) := by
  unfold dzI; rw [(vhC_iff k c hk).1 h]; show (if k < k + 1 then _ else _) = _; rw [if_pos (by omega)]
theorem dz_miss {k : Nat} {c : UInt8} (hk : k < 16) (h : vhC k ≠ c) : dzI c (k + 1) = dzI c k := by
  unfold dzI
  cases hd : vhD c with
  | none => rfl
  | some x =>
    have : x ≠ k := by intro e; subst e; exact h ((vhC_iff x c hk).2 hd)
    show (if x < k + 1 then _ else _) = (if x < k then _ else _)
    by_cases hx : x < k
    · rw [if_pos (by omega), if_pos hx]
    · rw [if_neg (by omega), if_neg hx]
theorem dz_end (c : UInt8) : (vhD c = none ∧ dzI c 16 = -1) ∨ ∃ x, vhD c = some x ∧ x < 16 ∧ dzI c 16 = (x : Int) := by
  unfold dzI
  cases hd : vhD c with
  | none => exact .inl ⟨rfl, rfl⟩
  | some x => exact .inr ⟨x, rfl, (vhC_D hd).2, by show (if x < 16 then _ else _) = _; rw [if_pos (vhC_D hd).2]⟩
theorem vhN_some_take {l : List UInt8} {n j : Nat} {c : UInt8} (h : vhN (l.take j) = some n) (hc : l[j]? = some c) : vhN (l.take (j + 1)) = (vhD c).map fun d => 16 * n + d := by
  rw [List.take_add_one, hc, Option.toList_some, vhN_snoc, h]; rfl
theorem vhN_bad {l : List UInt8} {j : Nat} {c : UInt8} (hc : l[j]? = some c) (h : vhD c = none) : vhN l = none := by
  cases hn : vhN l with
  | none => rfl
  | some n =>
    obtain ⟨x, hx⟩ := (vhN_inv hn).1 c (List.mem_of_getElem? hc)
    rw [h] at hx; cases hx
theorem below_drewV (w : World) (n : Nat) : Below w.heap.size w (w.drewN n) := ⟨rfl, rfl, rfl, Nat.le_refl _, fun _ _ => rfl⟩
set_option maxHeartbeats 6400000 in
set_option maxRecDepth 100000 in
theorem rvnum_any (s : ByteArray) (w : World) (hs : s.size ≤ 6) : Calls Tryd.prog 30 #[.string s] w fun e w' => e = .returned (.int .i64 (hxI s.data.toList)) ∧ Below w.heap.size w w' := by
  have hl : s.data.toList.length = s.size := by rw [Array.length_toList]; rfl
  have HL := Lib.hid hl
  clear hl
  go_enter Tryd.func30, Tryd.ntmps30
  go_upto_region 3 with fail
  go_loopw [3, 4, 5, 6, 9] (fun vn _ _ _ vc wr => ∃ j n : Nat, vc = .int .i64 (j : Int) ∧ vn = .int .i64 (n : Int) ∧ j ≤ s.size ∧ Hid (vhN (s.data.toList.take j) = some n ∧ n < 16 ^ j) ∧ Below w.heap.size w wr) (fun _ _ _ _ vc _ => s.size - (intOf vc).toNat)
  case atStart => exact ⟨0, 0, rfl, rfl, Nat.zero_le _, Lib.hid ⟨rfl, by decide⟩, Below.refl _ _⟩
  case round =>
    obtain ⟨j, n, rfl, rfl, hjs, hN, hb⟩ := hrel
    by_cases hj : j < s.size
    · obtain ⟨x, hx⟩ : ∃ x : UInt8, s[j]'hj = x := ⟨_, rfl⟩
      have hxl : s.data.toList[j]? = some x := by rw [← hx]; exact Lib.data_getElem? s j hj
      have HX := Lib.hid hxl
      have hj0 : (0 : Int) ≤ (j : Int) := by omega
      have hjI : (j : Int) < (s.size : Int) := by omega
      have hn16 : n < 16777216 := by
        have h1 := hN.out.2
        have h2 : 16 ^ j ≤ 16 ^ 6 := Nat.pow_le_pow_right (by decide) (by omega)
        have h3 : 16 ^ 6 = 16777216 := by decide
        omega
      clear hxl
      go_upto_region 7 with fail
      go_loopw [5, 6, 12] (fun vd _ vk wx => ∃ k : Nat, k ≤ 16 ∧ vk = .int .i64 (k : Int) ∧ vd = .int .i64 (dzI x k) ∧ Below w.heap.size w wx) (fun _ _ vk _ => 16 - (intOf vk).toNat)
      case atStart => exact ⟨0, by decide, rfl, by unfold dzI; cases vhD x <;> rfl, hb⟩
      case round =>
        obtain ⟨k, hk16, rfl, rfl, hbx⟩ := hrel
        by_cases hk : k < 16
        · have ha := rhexs_get k hk
          have hkI : (k : Int) < 16 := by omega
          have hk0 : (0 : Int) ≤ (k : Int) := by omega
          have HB := Lib.hid hbx
          clear hbx hb
          by_cases hc : vhC k = x
          · have q1 : (((vhC k).toNat : Int) == (x.toNat : Int)) = true := by rw [hc]; exact beq_self_eq_true _
            have HD := Lib.hid (dz_hit hk hc)
            clear hc
            go_upto_region 9 with fail
            go_quiet (fail)
            have HB2 := Lib.hid (HB.out.trans ((below_drewV wr nq).mono HB.out.size))
            generalize wr.drewN nq = wq at HB2 ⊢
            go_wp2
            go_roundw
            case rel => exact ⟨k + 1, by omega, by go_num, by rw [HD.out], HB2.out⟩
            case measure => simp [intOf]; omega
          · have q1 : (((vhC k).toNat : Int) == (x.toNat : Int)) = false := by
              rw [beq_eq_false_iff_ne]
              intro e
              exact hc (UInt8.toNat_inj.1 (Int.ofNat_inj.1 e))
            have HD := Lib.hid (dz_miss hk hc)
            clear hc
            go_upto_region 9 with fail
            go_quiet (fail)
            have HB2 := Lib.hid (HB.out.trans ((below_drewV wr nq).mono HB.out.size))
            generalize wr.drewN nq = wq at HB2 ⊢
            go_wp2
            go_roundw
            case rel => exact ⟨k + 1, by omega, by go_num, by rw [HD.out], HB2.out⟩
            case measure => simp [intOf]; omega
        · obtain rfl : k = 16 := by omega
          have HB := Lib.hid hbx
          clear hbx hb
          rcases dz_end x with ⟨hd, he⟩ | ⟨d, hd, hd16, he⟩
          · have E : Hid (hxI s.data.toList = -1) := Lib.hid (by unfold hxI; rw [vhN_bad HX.out hd])
            rw [he]
            clear he hd hN
            go_wp2
            go_ret
            exact ⟨by rw [E.out]; rfl, HB.out⟩
          · have hT := vhN_some_take hN.out.1 HX.out
            rw [hd] at hT
            have HT : Hid (vhN (s.data.toList.take (j + 1)) = some (16 * n + d) ∧ 16 * n + d < 16 ^ (j + 1)) := Lib.hid ⟨hT, by rw [Nat.pow_succ]; have := hN.out.2; omega⟩
            rw [he]
            have hd0 : ¬ (d : Int) < 0 := by omega
            clear he hd hN hT
            go_wp2
            go_roundw
            case rel => exact ⟨j + 1, 16 * n + d, by go_num, by go_num, by omega, HT, HB.out⟩
            case measure => simp [intOf]; omega
    · obtain rfl : j = s.size := by omega
      have E : Hid (hxI s.data.toList = (n : Int)) := Lib.hid (by
        have := hN.out.1
        rw [List.take_of_length_le (by rw [HL.out]; exact Nat.le_refl _)] at this
        unfold hxI; rw [this])
      clear hN
      go_wp2
      go_ret
      exact ⟨by rw [E.out]; rfl, hb⟩
end Go.Proofs.YtmlmdidaldcoiaaDoor
