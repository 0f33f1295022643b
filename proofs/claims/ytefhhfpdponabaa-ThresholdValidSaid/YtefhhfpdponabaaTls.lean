/- The document's Least. -/
import Derived.Test.YtefhhfpdponabaaTen
namespace Go.Proofs.Ytefhhfpdponabaa
open Go.ChangeShapes Go.WideShapes Go.ChangeAt Go.RowKit
set_option linter.unusedVariables false
set_option linter.unusedSimpArgs false

theorem FrsAt.mono {B C : Nat} {w : World} {v : Value} {l : List FR} (h : FrsAt B w v l) (hC : B ≤ C) : FrsAt C w v l := by
  obtain ⟨ao, cap, h1, h2, h3, h4, h5⟩ := h
  refine ⟨ao, cap, h1, h2, h3, h4, fun i f e => ?_⟩
  obtain ⟨g, off, a1, a2, a3, a4⟩ := h5 i f e
  exact ⟨g, off, a1, by omega, a3, a4⟩
theorem FrssAt.mono {B C : Nat} {w : World} {v : Value} {ws : List (List FR)} (h : FrssAt B w v ws) (hC : B ≤ C) : FrssAt C w v ws := by
  obtain ⟨ao, cap, h1, h2, h3, h5⟩ := h
  refine ⟨ao, cap, h1, h2, h3, fun i l e => ?_⟩
  obtain ⟨g, off, u, a1, a2, a3, a4⟩ := h5 i l e
  exact ⟨g, off, u, a1, by omega, a3, a4.mono hC⟩
/-- The least number, or -1. -/
noncomputable def leastI (num : Int) (ws : List (List FR)) (keys : Int) : Int := open Classical in if h : validB num ws keys = true ∧ ∃ L, IsLeast keys.toNat (enB num ws) L then ((Classical.choose h.2 : Nat) : Int) else -1
theorem leastI_of {num : Int} {ws : List (List FR)} {keys : Int} {L : Nat} (hv : validB num ws keys = true) (hL : IsLeast keys.toNat (enB num ws) L) : leastI num ws keys = (L : Int) := by
  have h : validB num ws keys = true ∧ ∃ L, IsLeast keys.toNat (enB num ws) L := ⟨hv, L, hL⟩
  unfold leastI
  rw [dif_pos h]
  exact congrArg _ ((Classical.choose_spec h.2).uniq hL)
theorem leastI_no {num : Int} {ws : List (List FR)} {keys : Int} (hv : validB num ws keys = false) : leastI num ws keys = -1 := by
  unfold leastI
  rw [dif_neg (fun h => by rw [hv] at h; cases h.1)]
theorem valid_keys {num : Int} {ws : List (List FR)} {keys : Int} (hv : validB num ws keys = true) : 0 ≤ keys ∧ keys ≤ 8 ∧ lenL ws ≤ 8 := by
  unfold validB at hv
  split at hv
  · rw [Bool.and_eq_true, decide_eq_true_eq, decide_eq_true_eq] at hv
    refine ⟨by omega, by omega, ?_⟩
    rw [hv.2]; exact Nat.zero_le _
  split at hv
  · cases hv
  split at hv
  · rename_i e
    refine ⟨by omega, by omega, ?_⟩
    rw [e]; exact Nat.zero_le _
  · rw [Bool.and_eq_true, decide_eq_true_eq] at hv
    exact ⟨by omega, by omega, by omega⟩
theorem enB_ext {num : Int} {ws : List (List FR)} {p q : Nat → Bool} (h8 : lenL ws ≤ 8) (h : ∀ i, i < 8 → p i = q i) : enB num ws p = enB num ws q := by
  unfold enB
  rw [cnt_ext 8 h, enL_ext ws 0 (fun i _ h2 => h i (by omega))]
/-- The numbers of a number's bits. -/
def bitsL (m n : Nat) : List Int := ((List.range n).filter (bitB m)).map fun k : Nat => (k : Int)
theorem bitsL_length (m n : Nat) : (bitsL m n).length = cnt (bitB m) n := by unfold bitsL cnt; rw [List.length_map]
theorem bitsL_succ (m n : Nat) : bitsL m (n + 1) = bitsL m n ++ (if bitB m n = true then [(n : Int)] else []) := by
  unfold bitsL
  rw [List.range_succ, List.filter_append, List.map_append]
  congr 1
  by_cases h : bitB m n = true
  · rw [List.filter_cons_of_pos h, if_pos h]; rfl
  · rw [List.filter_cons_of_neg h, if_neg h]; rfl
theorem inS_bits (m n i : Nat) (hm : m < 2 ^ n) : inS (bitsL m n) i = bitB m i := by
  unfold inS bitsL
  rw [List.any_map, Bool.eq_iff_iff, List.any_eq_true]
  constructor
  · rintro ⟨k, hk, e⟩
    have e' : (k : Int) = (i : Int) := by simpa using e
    obtain rfl : k = i := by omega
    exact (List.mem_filter.1 hk).2
  · intro h
    have hi : i < n := by
      rcases Nat.lt_or_ge i n with h' | h'
      · exact h'
      · rw [bitB_out hm h'] at h; cases h
    exact ⟨i, List.mem_filter.2 ⟨List.mem_range.2 hi, h⟩, by simp⟩
def intsV (zs : List Int) : List Value := zs.map fun z => .int .i64 z
theorem ints_of_own {w : World} {C T : Nat} {v : Value} {zs : List Int} (h : w.ownsRow C T 1 v zs.length (intsV zs)) : IntsAt w.heap.size w v zs := by
  obtain ⟨hl, ⟨rfl, h0⟩ | ⟨g, cap, cur, rfl, hC, hh, hn, hm, hs, ht⟩⟩ := h
  · exact ⟨none, 0, by rw [h0], by omega, by unfold maxLen; omega, fun i f e => by
      rw [List.getElem?_eq_none (by omega)] at e; cases e⟩
  · refine ⟨some ⟨g, 0, none⟩, cap, rfl, hn, hm, fun i z e => ?_⟩
    have hi : i < zs.length := by
      rcases Nat.lt_or_ge i zs.length with h | h
      · exact h
      · rw [List.getElem?_eq_none h] at e; cases e
    have g0 : (intsV zs)[i]? = some (.int .i64 z) := by unfold intsV; rw [List.getElem?_map, e]; rfl
    rw [← ht, List.getElem?_take] at g0
    rw [if_pos (by omega)] at g0
    refine ⟨g, 0, rfl, lt_of_block hh, ?_⟩
    simp only [World.cell?, hh]
    simpa using g0
theorem bit_and (m k : Nat) (hm : m < 256) (hk : k < 8) : bits BinOp.and IntKind.i64 ((m : Int) / 2 ^ k) 1 = ((m / 2 ^ k % 2 : Nat) : Int) := by
  have : ∀ x : Fin 256, bits BinOp.and IntKind.i64 ((x.1 : Nat) : Int) 1 = ((x.1 % 2 : Nat) : Int) := by decide +kernel
  have e : (m : Int) / 2 ^ k = ((m / 2 ^ k : Nat) : Int) := by rw [Int.natCast_ediv, Int.natCast_pow]; rfl
  rw [e]
  exact this ⟨m / 2 ^ k, Nat.lt_of_le_of_lt (Nat.div_le_self _ _) hm⟩
theorem Try.infoI : (Try.prog.info? 3).map (fun i => (i.zero, i.size, i.bytes)) = some (some (.int .i64 0), 1, 8) := by kernel_rfl
/-- What is known of the least number of the first m sets. -/
def LeastTo (K m : Nat) (P : (Nat → Bool) → Bool) (b : Nat) : Prop := (b = K ∨ ∃ x, x < m ∧ P (bitB x) = true ∧ cnt (bitB x) K = b) ∧ ∀ x, x < m → P (bitB x) = true → b ≤ cnt (bitB x) K
theorem LeastTo.done {K : Nat} {P : (Nat → Bool) → Bool} {b : Nat} (h : LeastTo K (2 ^ K) P b) (hf : P (bitB (2 ^ K - 1)) = true) : IsLeast K P b := by
  refine ⟨?_, h.2⟩
  rcases h.1 with rfl | ⟨x, h1, h2, h3⟩
  · exact ⟨2 ^ b - 1, by have := Nat.two_pow_pos b; omega, hf, cnt_all b (fun i hi => bitB_full b i hi)⟩
  · exact ⟨x, h1, h2, h3⟩
theorem LeastTo.better {K m b : Nat} {P : (Nat → Bool) → Bool} (h : LeastTo K m P b) (hp : P (bitB m) = true) (hc : cnt (bitB m) K < b) : LeastTo K (m + 1) P (cnt (bitB m) K) :=
  ⟨.inr ⟨m, by omega, hp, rfl⟩, fun x hx hpx => by
    rcases Nat.lt_or_ge x m with h1 | h1
    · have := h.2 x h1 hpx; omega
    · obtain rfl : x = m := by omega
      exact Nat.le_refl _⟩
theorem LeastTo.same {K m b : Nat} {P : (Nat → Bool) → Bool} (h : LeastTo K m P b) (hp : P (bitB m) = true → b ≤ cnt (bitB m) K) : LeastTo K (m + 1) P b :=
  ⟨h.1.imp id (fun ⟨x, h1, h2, h3⟩ => ⟨x, by omega, h2, h3⟩), fun x hx hpx => by
    rcases Nat.lt_or_ge x m with h1 | h1
    · exact h.2 x h1 hpx
    · obtain rfl : x = m := by omega
      exact hp hpx⟩
set_option maxHeartbeats 1600000 in
set_option maxRecDepth 100000 in
theorem rleast13_any (B : Nat) (num : Int) (v : Value) (ws : List (List FR)) (keys : Int) (w : World) (hv : FrssAt B w v ws) (hB : B ≤ w.heap.size) (hws : ws.length ≤ 1000000) : Calls Try.prog 18 #[.agg #[.int .i64 num, v], .int .i64 keys] w fun e w' => e = .returned (.int .i64 (leastI num ws keys)) ∧ Below w.heap.size w w' := by
  have b0 := (Below.refl w.heap.size w).alloc (o := .cells #[.int .i64 num, v] 25) (Nat.le_refl _)
  have a0 := Arr.new w [.int .i64 num, v] 25
  have VA := Lib.hid (fun (wx : World) (h : Below w.heap.size w wx) => rvalid13_any B num v ws keys wx (hv.below h hB) (Nat.le_trans hB h.size) hws)
  have c0 : (w.alloc (.cells #[.int .i64 num, v] 25)).cell? ⟨w.heap.size, 0, none⟩ = some (.int .i64 num) := a0.cellAt rfl
  have c1 : (w.alloc (.cells #[.int .i64 num, v] 25)).cell? ⟨w.heap.size, 1, none⟩ = some v := a0.cellAt rfl
  cases hval : validB num ws keys with
  | false =>
    rw [leastI_no hval]
    rw [hval] at VA
    clear hval
    go_enter Try.func18, Try.ntmps18
    go_wp2_with (go_at_call 16; (with_reducible refine (VA.out _ b0).mono ?_); rintro e w1 ⟨rfl, hb1⟩)
    go_ret
    exact ⟨rfl, b0.trans (hb1.mono b0.size)⟩
  | true =>
    obtain ⟨k1, k8, h8⟩ := valid_keys hval
    obtain ⟨K, rfl⟩ : ∃ K : Nat, keys = (K : Int) := ⟨keys.toNat, by omega⟩
    have hK : K ≤ 8 := by omega
    have hfull : enB num ws (bitB (2 ^ K - 1)) = true := enB_all hval (fun i hi => bitB_full K i hi)
    obtain ⟨R, hR⟩ : ∃ R, R = leastI num ws (K : Int) := ⟨_, rfl⟩
    have HL : Hid (∀ L, LeastTo K (2 ^ K) (enB num ws) L → R = (L : Int)) := Lib.hid (fun L h => by rw [hR]; exact leastI_of hval (h.done hfull))
    rw [← hR]
    rw [hval] at VA
    have hpw : 2 ^ K ≤ 256 := Nat.le_trans (Nat.pow_le_pow_right (by decide) hK) (by decide)
    obtain ⟨E, hE⟩ : ∃ E, E = 2 ^ K := ⟨_, rfl⟩
    have hsh : (2 : Int) ^ K = (E : Int) := by rw [hE, Int.natCast_pow]; rfl
    rw [← hE] at HL hpw
    have hEi : (E : Int) ≤ 256 := by omega
    have HE := Lib.hid hE
    have ES := Lib.hid (fun (wx : World) (sv : Value) (zs : List Int) (h : Below w.heap.size w wx) (hz : IntsAt wx.heap.size wx sv zs) (hl : zs.length ≤ 8) => renough13_any wx.heap.size num v sv ws zs wx ((hv.below h hB).mono (Nat.le_trans hB h.size)) hz (Nat.le_refl _) h8 hws (by omega))
    clear hval hfull hR hE
    go_enter Try.func18, Try.ntmps18
    go_upto_region 5 with (go_at_call 16; (with_reducible refine (VA.out _ b0).mono ?_); rintro e w1 ⟨rfl, hb1⟩)
    have hA := a0.below hb1 a0.lt
    have hb := b0.trans (hb1.mono b0.size)
    clear c0 c1 a0 b0 hb1
    obtain ⟨i0, hi, hz0, hz1, hz2⟩ := info_parts Try.infoI
    have HI := Lib.hid (And.intro hi (And.intro hz0 (And.intro hz1 hz2)))
    clear hi hz0 hz1 hz2
    go_loopw [5, 17] (fun b i wr => ∃ (m c : Nat), m ≤ E ∧ i = .int .i64 m ∧ b = .int .i64 c ∧ c ≤ K ∧ Hid (LeastTo K m (enB num ws) c) ∧ Arr wr w.heap.size 25 [.int .i64 num, v] ∧ Below w.heap.size w wr) (fun _ i _ => E - (intOf i).toNat)
    case atStart => exact ⟨0, K, Nat.zero_le _, rfl, rfl, Nat.le_refl _, Lib.hid ⟨.inl rfl, fun x hx => absurd hx (by omega)⟩, hA, hb⟩
    case round =>
      clear hA hb
      obtain ⟨m, c, hm, rfl, rfl, hcK, hLT, hA, hb⟩ := hrel
      have hbs := hb.size
      by_cases hlt : m < E
      · have HM : Hid (m < 2 ^ K) := Lib.hid (by rw [← HE.out]; exact hlt)
        have hm256 : m < 256 := by omega
        have BA := Lib.hid (fun (t : Nat) (ht : t < 8) => bit_and m t hm256 ht)
        obtain ⟨W, hW⟩ : ∃ W, W = wr := ⟨_, rfl⟩
        rw [← hW] at hA hb hbs ⊢
        clear hW
        go_upto_region 9 with fail
        go_loopw [7, 21] (fun s i wi => ∃ (t : Nat) (vo : Option Addr) (vc : Nat), t ≤ K ∧ i = .int .i64 t ∧ s = .slice vo (bitsL m t).length vc ∧ wi.ownsRow W.heap.size 3 1 (.slice vo (bitsL m t).length vc) (bitsL m t).length (intsV (bitsL m t)) ∧ Below W.heap.size W wi) (fun _ i _ => K - (intOf i).toNat)
        case atStart => exact ⟨0, none, 0, Nat.zero_le _, rfl, rfl, World.ownsRow_nil _ _ _ _, Below.refl _ _⟩
        case round =>
          obtain ⟨t, vo, vc, ht, rfl, rfl, hO, hbi⟩ := hrel
          have hbis := hbi.size
          by_cases hlt2 : t < K
          · have hba := BA.out t (by omega)
            have hbl := bitsL_succ m t
            have hcl := cnt_le (bitB m) t
            rw [← bitsL_length] at hcl
            obtain ⟨P1, hP1⟩ : ∃ P1, P1 = bitsL m t := ⟨_, rfl⟩
            rw [← hP1] at hO hbl hcl ⊢
            have hPb : P1.length ≤ 8 := by omega
            have htb : (t : Int) ≤ 8 := by omega
            cases hbt : bitB m t with
            | false =>
              have h1 : m / 2 ^ t % 2 = 0 := by
                unfold bitB at hbt
                rw [beq_eq_false_iff_ne] at hbt; omega
              rw [h1] at hba
              rw [hbt, if_neg (by decide), List.append_nil] at hbl
              have HBL := Lib.hid hbl
              clear hbl hbt h1 hP1
              go_wp2
              exact ⟨⟨t + 1, vo, vc, by omega, by go_num, by rw [HBL.out], by rw [HBL.out]; exact hO, hbi⟩, by simp [intOf]; omega⟩
            | true =>
              have h1 : m / 2 ^ t % 2 = 1 := by
                unfold bitB at hbt
                rw [beq_iff_eq] at hbt; exact hbt
              rw [h1] at hba
              rw [hbt, if_pos rfl] at hbl
              have HBL := Lib.hid hbl
              have HO := Lib.hid hO
              clear hbl hbt h1 hP1 hO
              go_wp2_with (at_builtin; refine wpList_append_own _ rfl (.tmp 30) (.tmp 32) 22 rfl W.heap.size 3 i0 (.int .i64 0) 1 8 Try.underlying22 HI.out.1 HI.out.2.1 HI.out.2.2.1 HI.out.2.2.2 rfl (by decide) _ P1.length _ rfl (HO.out.alloc _) ⟨wr.heap.size, 0, none⟩ 1 1 [.int .i64 t] rfl rfl (cells_new _ _ _ _ rfl) (by intro u hu; simp at hu; subst hu; rfl) (by unfold maxLen; omega) (by omega) (by simp; omega) ?_; intro v2 w4 hO2 hg2 _)
              obtain ⟨a2, c2, rfl, -, -⟩ := own_form2 hO2
              have hb4 := obelow (hbi.alloc (o := .cells #[.int .i64 t] 3) hbis) (HO.out.alloc _) hg2 (by simp; omega)
              have hlen2 : (P1 ++ [(t : Int)]).length = P1.length + 1 := by simp
              have hcl2 : intsV P1 ++ [.int .i64 t] = intsV (P1 ++ [(t : Int)]) := by simp [intsV]
              rw [hcl2, ← hlen2] at hO2
              rw [← hlen2]
              clear hg2
              go_wp2
              exact ⟨⟨t + 1, a2, c2, by omega, by go_num, by rw [HBL.out], by rw [HBL.out]; exact hO2, hb4⟩, by simp [intOf]; omega⟩
          · obtain rfl : t = K := by omega
            have hz := ints_of_own hO
            have hbw := hb.trans (hbi.mono hbs)
            have hcb := cnt_le (bitB m) t
            have EN := Lib.hid (ES.out wr _ (bitsL m t) hbw hz (by rw [bitsL_length]; omega))
            have hex : enB num ws (inS (bitsL m t)) = enB num ws (bitB m) := enB_ext h8 (fun i _ => inS_bits m t i HM.out)
            rw [hex] at EN
            rw [bitsL_length] at EN ⊢
            have hA2 := hA.below hbi hA.lt
            have z1 : wr.cell? ⟨w.heap.size, 0, none⟩ = some (.int .i64 num) := hA2.cellAt rfl
            have z2 : wr.cell? ⟨w.heap.size, 1, none⟩ = some v := hA2.cellAt rfl
            have HA2 := Lib.hid hA2
            have hLT' := hLT.out
            obtain ⟨n, hn⟩ : ∃ n, n = cnt (bitB m) t := ⟨_, rfl⟩
            rw [← hn] at hcb EN ⊢
            by_cases hnc : n < c
            · have hnci : (n : Int) < (c : Int) := by omega
              cases he : enB num ws (bitB m) with
              | true =>
                have hnx := hLT'.better he (by rw [← hn]; exact hnc)
                rw [← hn] at hnx
                rw [he] at EN
                have HNX := Lib.hid hnx
                clear hnx he hn hLT' hLT hO hz hA hA2 hex
                go_wp2_with (go_at_call 22; (with_reducible refine EN.out.mono ?_); rintro e w5 ⟨rfl, hb5⟩)
                go_roundw
                case rel => exact ⟨m + 1, n, by omega, by go_num, rfl, by omega, HNX, HA2.out.below hb5 HA2.out.lt, hbw.trans (hb5.mono hbw.size)⟩
                case measure => simp [intOf]; omega
              | false =>
                have hnx := hLT'.same (fun h => by rw [he] at h; cases h)
                rw [he] at EN
                have HNX := Lib.hid hnx
                clear hnx he hn hLT' hLT hO hz hA hA2 hex
                go_wp2_with (go_at_call 22; (with_reducible refine EN.out.mono ?_); rintro e w5 ⟨rfl, hb5⟩)
                go_roundw
                case rel => exact ⟨m + 1, c, by omega, by go_num, rfl, hcK, HNX, HA2.out.below hb5 HA2.out.lt, hbw.trans (hb5.mono hbw.size)⟩
                case measure => simp [intOf]; omega
            · have hnci : ¬ (n : Int) < (c : Int) := by omega
              have hnx := hLT'.same (fun _ => by rw [← hn]; omega)
              have HNX := Lib.hid hnx
              clear hnx hn hLT' hLT hO hz hA hA2 hex
              go_wp2
              go_roundw
              case rel => exact ⟨m + 1, c, by omega, by go_num, rfl, hcK, HNX, HA2.out, hbw⟩
              case measure => simp [intOf]; omega
      · obtain rfl : m = E := by omega
        have hR := HL.out c hLT.out
        have HR := Lib.hid hR
        clear hR HL
        go_wp2
        go_ret
        exact ⟨by rw [HR.out]; rfl, hb⟩
end Go.Proofs.Ytefhhfpdponabaa
