/- The walk of ThresholdGrows. -/
import Derived.Test.YtefhhfpdponabaaTle
import Derived.BigFrame
namespace Go.Proofs.Ytefhhfpdponabaa
open Go.ChangeShapes Go.WideShapes Go.ChangeAt Go.RowKit
set_option linter.unusedVariables false
set_option linter.unusedSimpArgs false

theorem wpList_append_want {P : Program} {ops : Array Oper} {rest : List Oper} {o : Oper} {a : Act} {w : World} {Q : Exit → Act → World → Prop} (hw : Region.wanted o (yielded ops a.tmps) = true) (s x : Operand) (t : TypeId)
    (ho : o.op = .call { callee := .builtin .append, args := #[s, x], argTypes := #[t, t] })
    (base : Nat) (e : TypeId) (i : TypeInfo) (z : Value) (size bytes : Nat) (ht : P.underlying t = some (.slice e)) (hi : P.info? e = some i) (hz : i.zero = some z)
    (hsize : i.size = size) (hby : i.bytes = bytes) (hzs : z.cells.size = size) (hsz : 0 < size)
    (v : Value) (n : Nat) (xs : List Value) (hs : a.eval s = v) (hown : w.ownsRow base e size v n xs)
    (ad : Addr) (m c : Nat) (news : List Value) (hx : a.eval x = .slice (some ad) m c) (hl : news.length = m * size) (hnews : ∀ j u, news[j]? = some u → w.cell? (ad.add j) = some u) (h1 : ∀ u ∈ news, u.oneCell' = true)
    (h63 : n + m ≤ maxLen) (hbytes : (n + m) * bytes ≤ 140737488355328) (hbase : base ≤ w.heap.size)
    (h : ∀ v' w', w'.ownsRow base e size v' (n + m) (xs ++ news) → w.grownBy w' v.ownBlock → wpList P ops Q rest (a.put o.dst v') w') : wpList P ops Q (o :: rest) a w :=
  BigFrame.wpList_want hw fun _ hK => wp_append_own w s x t ho base e i z size bytes ht hi hz hsize hby hzs hsz v n xs hs hown ad m c news hx hl hnews h1 h63 hbytes hbase fun v' w' h2 h3 h4 => hK _ _ (h v' w' h2 h3)
theorem least_to (K : Nat) (P : (Nat → Bool) → Bool) : ∀ m, m ≤ 2 ^ K → ∃ b, LeastTo K m P b
  | 0, _ => ⟨K, .inl rfl, fun x hx => absurd hx (by omega)⟩
  | m + 1, hm => by
    obtain ⟨b, hb⟩ := least_to K P m (by omega)
    by_cases hp : P (bitB m) = true
    · by_cases hc : cnt (bitB m) K < b
      · exact ⟨_, hb.better hp hc⟩
      · exact ⟨b, hb.same (fun _ => by omega)⟩
    · exact ⟨b, hb.same (fun h => absurd h hp)⟩
theorem least_is {num : Int} {ws : List (List FR)} {n : Nat} (hv : validB num ws n = true) : ∃ L, IsLeast n (enB num ws) L := by
  obtain ⟨b, hb⟩ := least_to n (enB num ws) (2 ^ n) (Nat.le_refl _)
  exact ⟨b, hb.done (enB_all hv (fun i hi => bitB_full n i hi))⟩
def allL (t : Nat) : List Int := (List.range t).map fun k : Nat => (k : Int)
theorem allL_length (t : Nat) : (allL t).length = t := by simp [allL]
theorem allL_succ (t : Nat) : allL (t + 1) = allL t ++ [(t : Int)] := by simp [allL, List.range_succ]
theorem inS_all (n i : Nat) (h : i < n) : inS (allL n) i = true := by
  unfold inS allL
  rw [List.any_eq_true]
  exact ⟨(i : Int), List.mem_map.2 ⟨i, List.mem_range.2 h, rfl⟩, by simp⟩
/-- Some set among the first m has just the least number. -/
def foundB (n L m : Nat) (P : (Nat → Bool) → Bool) : Bool := (List.range m).any fun x => P (bitB x) && (cnt (bitB x) n == L)
theorem found_succ (n L m : Nat) (P : (Nat → Bool) → Bool) : foundB n L (m + 1) P = (foundB n L m P || (P (bitB m) && (cnt (bitB m) n == L))) := by
  unfold foundB
  rw [List.range_succ, List.any_append]
  simp
theorem found_end {n L : Nat} {P : (Nat → Bool) → Bool} (h : IsLeast n P L) : foundB n L (2 ^ n) P = true := by
  obtain ⟨⟨m, h1, h2, h3⟩, -⟩ := h
  unfold foundB
  rw [List.any_eq_true]
  exact ⟨m, List.mem_range.2 h1, by rw [h2, h3]; simp⟩
set_option maxHeartbeats 3200000 in
set_option maxRecDepth 100000 in
theorem grows13_walk (a : Option Addr) (len cap : Nat) (zs : List Int) (w : World) (hn : NumsB w.heap.size w a len cap zs) :
    Calls Try.prog 5 #[.slice a len cap] w fun e w' => e = .returned (.bool true) ∧ Below w.heap.size w w' := by
  have AW := Lib.hid (fun (wx : World) => awake13_any wx)
  have LI := Lib.hid (fun wx : World => light_any a len cap wx)
  have RO := Lib.hid (roll_any a len cap zs w hn)
  by_cases h500 : (len : Int) ≤ 500
  rotate_left
  · rw [decide_eq_false h500] at LI
    clear h500
    go_enter Try.func5, Try.ntmps5
    go_wp2_with (first
      | (go_at_call 8; (with_reducible refine (LI.out _).mono ?_); rintro e w3 ⟨rfl, rfl⟩)
      | (go_at_call 9; (with_reducible refine (AW.out _).mono ?_); rintro e w1 ⟨rfl, hb1⟩))
    go_ret
    exact ⟨rfl, hb1⟩
  rw [decide_eq_true h500] at LI
  have N7 := Lib.hid (fun (wx : World) (h : DiceAt w.heap.size wx w.heap.size) => next_lit w.heap.size w.heap.size 7 7 rfl wx (by decide) (by decide) h)
  have KT := Lib.hid (fun (wx : World) (n : Nat) (hn : n ≤ 8) (h : DiceAt w.heap.size wx w.heap.size) => kthr_any w.heap.size w.heap.size n wx hn h)
  obtain ⟨i0, hi, hz0, hz1, hz2⟩ := info_parts Try.infoI
  have HI := Lib.hid (And.intro hi (And.intro hz0 (And.intro hz1 hz2)))
  clear hi hz0 hz1 hz2 hn h500
  go_enter Try.func5, Try.ntmps5
  go_upto_region 5 with (first
    | (go_at_call 8; (with_reducible refine (LI.out _).mono ?_); rintro e w3 ⟨rfl, rfl⟩)
    | (go_at_call 10; (with_reducible refine (RO.out).mono ?_); rintro e w1 ⟨rfl, hb1, hd1⟩)
    | (go_at_call 11; (with_reducible refine (N7.out _ hd1).mono ?_); rintro e w2 ⟨⟨k7, hn7, rfl⟩, hg2, hd2⟩))
  obtain ⟨n, hne⟩ : ∃ n, n = 1 + k7 := ⟨_, rfl⟩
  have ni : (1 : Int) + (k7 : Int) = (n : Int) := by omega
  try rw [ni]
  have hn1 : 1 ≤ n := by omega
  have hn8 : n ≤ 7 := by omega
  clear hne hn7
  go_upto_region 8 with (go_at_call 13; (with_reducible refine (KT.out _ n (by omega) hd2).mono ?_); rintro e w4 ⟨⟨num, ws, o, c, rfl, hin, hval, hws, h64⟩, hg4, hd4⟩)
  have hT : Thr w w.heap.size w.heap.size w2.heap.size w4.heap.size num o c ws (w4.alloc (.cells #[.int .i64 num, .slice o ws.length c] 25)) :=
    ⟨hd2.lt, Nat.le_refl _, hg4.size, Nat.le_refl _, hd4.go ((Below.refl w4.heap.size w4).alloc (Nat.le_refl _) _), hin.keep.step (by simp) (fun b _ hb => Below.heap_alloc w4 _ b hb), Arr.new w4 _ _,
      (gbelow (gbelow hb1 hg2 hb1.size (Nat.le_refl _)) hg4 (by have := hb1.size; have := hg2.size; omega) (Nat.le_refl _)).alloc (by have := hb1.size; have := hg2.size; have := hg4.size; omega) _⟩
  generalize w4.alloc (.cells #[.int .i64 num, .slice o ws.length c] 25) = wa at hT ⊢
  generalize w4.heap.size = D at hT ⊢
  generalize w2.heap.size = A at hT ⊢
  have HV := Lib.hid hval
  obtain ⟨L, hL⟩ := least_is hval
  have hLb := least_bounds hn1 hval hL
  have hLI := leastI_of hval (show IsLeast ((n : Int)).toNat (enB num ws) L from hL)
  have HL := Lib.hid hL
  have ENP := Lib.hid (fun (wx : World) (sv : Value) (zs : List Int) (h : Thr w w.heap.size w.heap.size A D num o c ws wx) (hz : IntsAt wx.heap.size wx sv zs) (hl : zs.length ≤ 1000) => tenough_any wx.heap.size num _ sv ws zs n wx h.at hz (Nat.le_refl _) HV.out (by omega) (by omega))
  have VAL := Lib.hid (fun (wx : World) (h : Thr w w.heap.size w.heap.size A D num o c ws wx) => tvalid_any wx.heap.size num _ ws n wx h.at (Nat.le_refl _) (by omega) (by have := (valid_keys HV.out).2.2; omega))
  rw [hval] at VAL
  have LEA := Lib.hid (fun (wx : World) (h : Thr w w.heap.size w.heap.size A D num o c ws wx) => tleast_any wx.heap.size num _ ws n wx h.at (Nat.le_refl _) (by omega) (by have := (valid_keys HV.out).2.2; omega))
  rw [hLI] at LEA
  have HW := Lib.hid (fun l hl => (validB_wts hval l hl).1)
  have NN := Lib.hid (fun (wx : World) (h : DiceAt w.heap.size wx w.heap.size) => next_any w.heap.size w.heap.size n wx hn1 (by omega) h)
  clear hb1 hd1 hg2 hd2 hin hval hg4 hd4 h64 N7 KT RO LI hL hLI
  have hDC := hT.lt
  obtain ⟨C, hC⟩ : ∃ C, C = wa.heap.size := ⟨_, rfl⟩
  rw [← hC] at hDC
  have hCa : C ≤ wa.heap.size := by omega
  clear hC
  go_loopw [6, 26] (fun s i wr => ∃ (t : Nat) (vo : Option Addr) (vc : Nat), t ≤ n ∧ i = .int .i64 t ∧ s = .slice vo t vc ∧ wr.ownsRow C 3 1 (.slice vo t vc) t (intsV (allL t)) ∧ Thr w w.heap.size w.heap.size A D num o c ws wr ∧ C ≤ wr.heap.size) (fun _ i _ => n - (intOf i).toNat)
  case atStart => exact ⟨0, none, 0, Nat.zero_le _, rfl, rfl, World.ownsRow_nil _ _ _ _, hT, hCa⟩
  case round =>
    clear hT hCa
    obtain ⟨t, vo, vc, ht, rfl, rfl, hO, hT, hCr⟩ := hrel
    by_cases hlt2 : t < n
    · have HO := Lib.hid hO
      have HT := Lib.hid hT
      clear hO hT
      go_wp2_with (at_builtin; refine wpList_append_own _ rfl (.tmp 29) (.tmp 31) 22 rfl C 3 i0 (.int .i64 0) 1 8 Try.underlying22 HI.out.1 HI.out.2.1 HI.out.2.2.1 HI.out.2.2.2 rfl (by decide) _ t _ rfl (HO.out.alloc _) ⟨wr.heap.size, 0, none⟩ 1 1 [.int .i64 t] rfl rfl (cells_new _ _ _ _ rfl) (by intro u hu; simp at hu; subst hu; rfl) (by unfold maxLen; omega) (by omega) (by simp; omega) ?_; intro v2 w7 hO2 hg2 _)
      obtain ⟨a2, c2, rfl, -, -⟩ := own_form2 hO2
      have hT7 := (HT.out.alloc (.cells #[.int .i64 t] 3)).own hDC (HO.out.alloc _) hg2
      have hs7 : C ≤ w7.heap.size := by have h1 := hg2.size; have h2 : (wr.alloc (.cells #[.int .i64 t] 3)).heap.size = wr.heap.size + 1 := by simp
                                        omega
      have hcl2 : intsV (allL t) ++ [.int .i64 t] = intsV (allL (t + 1)) := by rw [allL_succ]; simp [intsV]
      rw [hcl2] at hO2
      clear hg2
      go_wp2
      exact ⟨⟨t + 1, a2, c2, by omega, by go_num, rfl, hO2, hT7, hs7⟩, by simp [intOf]; omega⟩
    · obtain rfl : t = n := by omega
      have hz : IntsAt wr.heap.size wr (.slice vo t vc) (allL t) := by
        have := ints_of_own (zs := allL t) (v := .slice vo t vc) (by rw [allL_length]; exact hO)
        exact this
      have hes : enB num ws (inS (allL t)) = true := enB_all HV.out (fun i hi => inS_all t i hi)
      have c0 := hT.c0
      have c1 := hT.c1
      have HT := Lib.hid hT
      have HZ := Lib.hid hz
      have HES := Lib.hid hes
      have L1 : ¬ ((L : Int) < 1) := by omega
      have L2 : ¬ ((t : Int) < (L : Int)) := by omega
      clear hT hz hO hes
      have hpw : 2 ^ t ≤ 256 := Nat.le_trans (Nat.pow_le_pow_right (by decide) (show t ≤ 8 by omega)) (by decide)
      obtain ⟨E, hE⟩ : ∃ E, E = 2 ^ t := ⟨_, rfl⟩
      have hsh : (2 : Int) ^ t = (E : Int) := by rw [hE, Int.natCast_pow]; rfl
      rw [← hE] at hpw
      have hEi : (E : Int) ≤ 256 := by omega
      have HE := Lib.hid hE
      clear hE
      go_upto_region 17 with (first
        | (go_at_call 17; (with_reducible refine (LEA.out _ HT.out).mono ?_); rintro e wl ⟨rfl, hbl⟩; have HTl := Lib.hid (HT.out.below hbl); have c0 := HTl.out.c0; have c1 := HTl.out.c1)
        | (go_at_call 15; (with_reducible refine (VAL.out _ HTl.out).mono ?_); rintro e wv ⟨rfl, hbv⟩; have HTv := Lib.hid (HTl.out.below hbv); have c0 := HTv.out.c0; have c1 := HTv.out.c1; have HZv := Lib.hid ((HZ.out.below (hbl.trans (hbv.mono hbl.size)) (Nat.le_refl _)).grow (Nat.le_trans hbl.size hbv.size)); have EV := ENP.out wv _ _ HTv.out HZv.out (by rw [allL_length]; omega); rw [HES.out] at EV; have EV := Lib.hid EV)
        | (go_at_call 21; (with_reducible refine EV.out.mono ?_); rintro e we ⟨rfl, hbe⟩; have HTe := Lib.hid (HTv.out.below hbe)))
      have hT := HTe.out
      clear L1 L2
      try generalize decide ((L : Int) < 1) = dd1
      try generalize decide ((t : Int) < (L : Int)) = dd2
      try generalize decide (L < 1) = dd3
      try generalize decide (t < L) = dd4
      clear HTe EV HZv HTv HTl HT HZ HES hbl hbv hbe VAL LEA hpw
      obtain ⟨iL, hiL⟩ : ∃ iL : Value, iL = .int .i64 (L : Int) := ⟨_, rfl⟩
      go_loopw [9, 59] (fun f i wr => ∃ m : Nat, m ≤ E ∧ i = .int .i64 m ∧ f = .bool (foundB t L m (enB num ws)) ∧ Thr w w.heap.size w.heap.size A D num o c ws wr) (fun _ i _ => E - (intOf i).toNat)
      case atStart => exact ⟨0, Nat.zero_le _, rfl, rfl, hT⟩
      case round =>
        clear hT
        obtain ⟨m, hm, rfl, rfl, hT⟩ := hrel
        by_cases hlt : m < E
        · have HM : Hid (m < 2 ^ t) := Lib.hid (by rw [← HE.out]; exact hlt)
          have hm256 : m < 256 := by omega
          have BA := Lib.hid (fun (q : Nat) (hq : q < 8) => bit_and m q hm256 hq)
          have hDW := hT.lt
          obtain ⟨W, hW⟩ : ∃ W, W = wr.heap.size := ⟨_, rfl⟩
          rw [← hW] at hDW
          have hWr : W ≤ wr.heap.size := by omega
          clear hW
          go_upto_region 21 with fail
          go_loopw [11, 63] (fun s i wi => ∃ (q : Nat) (vo : Option Addr) (vc : Nat), q ≤ t ∧ i = .int .i64 q ∧ s = .slice vo (bitsL m q).length vc ∧ wi.ownsRow W 3 1 (.slice vo (bitsL m q).length vc) (bitsL m q).length (intsV (bitsL m q)) ∧ Thr w w.heap.size w.heap.size A D num o c ws wi ∧ W ≤ wi.heap.size) (fun _ i _ => t - (intOf i).toNat)
          case atStart => exact ⟨0, none, 0, Nat.zero_le _, rfl, rfl, World.ownsRow_nil _ _ _ _, hT, hWr⟩
          case round =>
            clear hT hWr
            obtain ⟨q, vo, vc, hq, rfl, rfl, hO, hT, hWr⟩ := hrel
            by_cases hlt2 : q < t
            · have hba := BA.out q (by omega)
              have hbl := bitsL_succ m q
              have hcl := cnt_le (bitB m) q
              rw [← bitsL_length] at hcl
              obtain ⟨P1, hP1⟩ : ∃ P1, P1 = bitsL m q := ⟨_, rfl⟩
              rw [← hP1] at hO hbl hcl ⊢
              have hPb : P1.length ≤ 8 := by omega
              have hqb : (q : Int) ≤ 8 := by omega
              cases hbt : bitB m q with
              | false =>
                have h1 : m / 2 ^ q % 2 = 0 := by
                  unfold bitB at hbt
                  rw [beq_eq_false_iff_ne] at hbt; omega
                rw [h1] at hba
                rw [hbt, if_neg (by decide), List.append_nil] at hbl
                have HBL := Lib.hid hbl
                clear hbl hbt h1 hP1
                go_wp2
                exact ⟨⟨q + 1, vo, vc, by omega, by go_num, by rw [HBL.out], by rw [HBL.out]; exact hO, hT, hWr⟩, by simp [intOf]; omega⟩
              | true =>
                have h1 : m / 2 ^ q % 2 = 1 := by
                  unfold bitB at hbt
                  rw [beq_iff_eq] at hbt; exact hbt
                rw [h1] at hba
                rw [hbt, if_pos rfl] at hbl
                have HBL := Lib.hid hbl
                have HO := Lib.hid hO
                have HT := Lib.hid hT
                clear hbl hbt h1 hP1 hO hT
                go_wp2_with (at_builtin; refine wpList_append_own _ rfl (.tmp 72) (.tmp 74) 22 rfl W 3 i0 (.int .i64 0) 1 8 Try.underlying22 HI.out.1 HI.out.2.1 HI.out.2.2.1 HI.out.2.2.2 rfl (by decide) _ P1.length _ rfl (HO.out.alloc _) ⟨wr.heap.size, 0, none⟩ 1 1 [.int .i64 q] rfl rfl (cells_new _ _ _ _ rfl) (by intro u hu; simp at hu; subst hu; rfl) (by unfold maxLen; omega) (by omega) (by simp; omega) ?_; intro v2 w7 hO2 hg2 _)
                obtain ⟨a2, c2, rfl, -, -⟩ := own_form2 hO2
                have hT7 := (HT.out.alloc (.cells #[.int .i64 q] 3)).own hDW (HO.out.alloc _) hg2
                have hs7 : W ≤ w7.heap.size := by have h1 := hg2.size; have h2 : (wr.alloc (.cells #[.int .i64 q] 3)).heap.size = wr.heap.size + 1 := by simp
                                                  omega
                have hlen2 : (P1 ++ [(q : Int)]).length = P1.length + 1 := by simp
                have hcl2 : intsV P1 ++ [.int .i64 q] = intsV (P1 ++ [(q : Int)]) := by simp [intsV]
                rw [hcl2, ← hlen2] at hO2
                rw [← hlen2]
                clear hg2
                go_wp2
                exact ⟨⟨q + 1, a2, c2, by omega, by go_num, by rw [HBL.out], by rw [HBL.out]; exact hO2, hT7, hs7⟩, by simp [intOf]; omega⟩
            · obtain rfl : q = t := by omega
              have hz := ints_of_own hO
              have hcb := cnt_le (bitB m) q
              have EV := ENP.out wr _ _ hT hz (by rw [bitsL_length]; omega)
              rw [enB_ext (q := bitB m) (valid_keys HV.out).2.2 (fun i _ => inS_bits m q i HM.out)] at EV
              have hfs := found_succ q L m (enB num ws)
              have hlb := HL.out.2 m HM.out
              have HO := Lib.hid hO
              have HT := Lib.hid hT
              have c0 := hT.c0
              have c1 := hT.c1
              obtain ⟨fd, hfd⟩ : ∃ fd, fd = foundB q L m (enB num ws) := ⟨_, rfl⟩
              rw [← hfd] at hfs ⊢
              clear hfd hz hO hT
              cases he : enB num ws (bitB m) with
              | false =>
                rw [he] at EV hfs
                rw [Bool.false_and, Bool.or_false] at hfs
                have HF := Lib.hid hfs
                have EV := Lib.hid EV
                clear hfs hlb he
                go_wp2_with (go_at_call 21; (with_reducible refine EV.out.mono ?_); rintro e we ⟨rfl, hbe⟩)
                go_roundw
                case rel => exact ⟨m + 1, by omega, by go_num, by rw [HF.out], HT.out.below hbe⟩
                case measure => simp [intOf]; omega
              | true =>
                rw [he] at EV hfs
                rw [Bool.true_and] at hfs
                have hlb2 := hlb he
                have HMO : Hid (∀ k : Nat, enB num ws (inS (bitsL m q ++ [(k : Int)])) = true) := Lib.hid (fun k => enB_mono (p := inS (bitsL m q)) HW.out (fun i hi => by rw [inS_snoc, hi, Bool.true_or]) (by rw [enB_ext (q := bitB m) (valid_keys HV.out).2.2 (fun i _ => inS_bits m q i HM.out)]; exact he))
                have HLN : Hid ((bitsL m q).length = cnt (bitB m) q) := Lib.hid (bitsL_length m q)
                have hcb2 := hcb
                obtain ⟨P1, hP1⟩ : ∃ P1, P1 = bitsL m q := ⟨_, rfl⟩
                rw [← hP1] at EV HO HMO HLN ⊢
                have hln := HLN.out
                obtain ⟨cc, hcc⟩ : ∃ cc, cc = cnt (bitB m) q := ⟨_, rfl⟩
                rw [← hcc] at hlb2 hfs hcb hln
                have ncl : ¬ ((P1.length : Int) < (L : Int)) := by omega
                have hPb : P1.length ≤ 8 := by omega
                have EV := Lib.hid EV
                obtain ⟨f2, hf2⟩ : ∃ f2, f2 = foundB q L (m + 1) (enB num ws) := ⟨_, rfl⟩
                rw [← hf2] at hfs
                have HF2 := Lib.hid hf2
                have hsel : (fd = true ∧ f2 = true) ∨ (fd = false ∧ f2 = ((P1.length : Int) == (L : Int))) := by
                  cases fd with
                  | true => exact .inl ⟨rfl, by rw [hfs]; rfl⟩
                  | false =>
                    refine .inr ⟨rfl, ?_⟩
                    rw [hfs, Bool.false_or, Bool.eq_iff_iff, beq_iff_eq, beq_iff_eq]
                    omega
                clear hlb hlb2 he hfs hf2 hcc hcb hcb2 hln hP1 HLN HL
                rcases hsel with ⟨rfl, rfl⟩ | ⟨rfl, rfl⟩
                · go_upto_region 28 with (go_at_call 21; (with_reducible refine EV.out.mono ?_); rintro e we ⟨rfl, hbe⟩)
                  have hTe := HT.out.below hbe
                  have hOe := owns_below HO.out hbe
                  have hWe : W ≤ we.heap.size := Nat.le_trans hWr hbe.size
                  have e0 := hTe.c0
                  have e1 := hTe.c1
                  refine wp_region_plan (fun w' => w'.cell? ⟨D, 0, none⟩ = some (.int .i64 num) ∧ w'.cell? ⟨D, 1, none⟩ = some (.slice o ws.length c)) [1, 5] (.take 0 (.take 1 (.take 2 (.take 3 (.take 4 (.take 5 (.take 6 (.take 7 (.take 8 (.ask 9 true (.ask 10 true (.ask 11 true (.ask 12 false (.take 13 (.take 14 .stop)) .stop) .stop) .stop) .stop)))))))))) (by kernel_rfl) (by kernel_rfl) (fun _ d _ _ _ h => by cases d <;> exact h) ⟨e0, e1⟩ ?_
                  have hTd := hTe.drew
                  have hOd : we.drew.ownsRow W 3 1 (.slice vo P1.length vc) P1.length (intsV P1) := hOe
                  have hWd : W ≤ we.drew.heap.size := hWe
                  clear e0 e1 hTe hOe hWe hbe c0 c1
                  generalize we.drew = wd at hTd hOd hWd ⊢
                  have hd1 : Hid (decide ((P1.length : Int) < (L : Int)) = false) := Lib.hid (decide_eq_false (by omega))
                  have hd2 : Hid (decide (P1.length < L) = false) := Lib.hid (decide_eq_false (by omega))
                  refine take_any _ ?_ rfl rfl ?_ (fun K hK => ?_); rotate_left; (intro w0; go_simp; (try rfl)); (go_simp; refine hK _ ?_; clear hK K)
                  refine take_held _ ?_ rfl rfl (by decide) ?_ (fun K hK => ?_); rotate_left; (intro w0 hw0; go_simp; (try rfl)); (go_simp; refine hK _ ?_; clear hK K)
                  refine take_any _ ?_ rfl rfl ?_ (fun K hK => ?_); rotate_left; (intro w0; go_simp; (try rfl)); (go_simp; refine hK _ ?_; clear hK K)
                  refine take_any _ ?_ rfl rfl ?_ (fun K hK => ?_); rotate_left; (intro w0; go_simp; (try rfl)); (go_simp; refine hK _ ?_; clear hK K)
                  try rw [hd1.out]
                  try rw [hd2.out]
                  refine take_any _ ?_ rfl rfl ?_ (fun K hK => ?_); rotate_left; (intro w0; go_simp; (try rfl)); (go_simp; refine hK _ ?_; clear hK K)
                  refine take_held _ ?_ rfl rfl (by decide) ?_ (fun K hK => ?_); rotate_left; (intro w0 hw0; go_simp; (try rfl)); (go_simp; refine hK _ ?_; clear hK K)
                  refine take_any _ ?_ rfl rfl ?_ (fun K hK => ?_); rotate_left; (intro w0; go_simp; (try rfl)); (go_simp; refine hK _ ?_; clear hK K)
                  refine take_any _ ?_ rfl rfl ?_ (fun K hK => ?_); rotate_left; (intro w0; go_simp; (try rfl)); (go_simp; refine hK _ ?_; clear hK K)
                  refine take_any _ ?_ rfl rfl ?_ (fun K hK => ?_); rotate_left; (intro w0; go_simp; (try rfl)); (go_simp; refine hK _ ?_; clear hK K)
                  have HTd := Lib.hid hTd
                  have HOd := Lib.hid hOd
                  have hgW : w.heap.size < W := by have h1 := hTd.gA; have h2 := hTd.AD; omega
                  clear hTd hOd
                  refine ask_step _ rfl trivial ?_; go_wp2_with (go_at_call 11; (with_reducible refine (NN.out _ HTd.out.hd).mono ?_); rintro e w6 ⟨⟨k, hk, rfl⟩, hg6, hd6⟩)
                  have hT6 := HTd.out.dice hg6 hd6
                  have hO6 := owns_grown HOd.out hg6 hgW
                  have hs6 := hg6.size
                  refine Seg.mk ⟨⟨hT6.c0, hT6.c1⟩, ?_⟩
                  refine ask_step _ rfl trivial ?_; go_wp2_with fail
                  have hT7 := hT6.alloc (.cells #[.int .i64 k] 3)
                  have HO7 := Lib.hid (hO6.alloc (.cells #[.int .i64 k] 3))
                  refine Seg.mk ⟨⟨hT7.c0, hT7.c1⟩, ?_⟩
                  have HT7 := Lib.hid hT7
                  clear hT7 hT6 hO6 hg6 hd6
                  refine ask_step _ rfl trivial ?_
                  go_wp2_with (at_builtin; refine wpList_append_want rfl (.tmp 94) (.tmp 98) 22 rfl W 3 i0 (.int .i64 0) 1 8 Try.underlying22 HI.out.1 HI.out.2.1 HI.out.2.2.1 HI.out.2.2.2 rfl (by decide) _ P1.length _ rfl HO7.out ⟨w6.heap.size, 0, none⟩ 1 1 [.int .i64 k] rfl rfl (cells_new _ _ _ _ rfl) (by intro u hu; simp at hu; subst hu; rfl) (by unfold maxLen; omega) (by omega) (by simp; omega) ?_; intro v2 w7 hO2 hg2)
                  have hT8 := HT7.out.own hDW HO7.out hg2
                  have hlen2 : (P1 ++ [(k : Int)]).length = P1.length + 1 := by simp
                  have hcl2 : intsV P1 ++ [.int .i64 k] = intsV (P1 ++ [(k : Int)]) := by simp [intsV]
                  rw [hcl2, ← hlen2] at hO2
                  obtain ⟨a2, c2, rfl, -, -⟩ := own_form2 hO2
                  have hz2 := ints_of_own hO2
                  have EV2 := ENP.out w7 _ _ hT8 hz2 (by rw [hlen2]; omega)
                  rw [HMO.out k, hlen2] at EV2
                  have EV2 := Lib.hid EV2
                  have HT8 := Lib.hid hT8
                  refine Seg.mk ⟨⟨hT8.c0, hT8.c1⟩, ?_⟩
                  clear hg2 hT8 hz2 hO2
                  refine ask_late _ rfl trivial ?_; go_wp2_with (go_at_call 21; (with_reducible refine EV2.out.mono ?_); rintro e w8 ⟨rfl, hb8⟩)
                  refine Seg.mk ?_
                  refine take_any _ ?_ rfl rfl ?_ (fun K hK => ?_); rotate_left; (intro w0; go_simp; (try rfl)); (go_simp; refine hK _ ?_; clear hK K)
                  refine take_any _ ?_ rfl rfl ?_ (fun K hK => ?_); rotate_left; (intro w0; go_simp; (try rfl)); (go_simp; refine hK _ ?_; clear hK K)
                  unfold wpPlan
                  go_wp2
                  go_roundw
                  case rel => exact ⟨m + 1, by omega, by go_num, by rw [HF2.out], HT8.out.below hb8⟩
                  case measure => simp [intOf]; omega
                · go_upto_region 28 with (go_at_call 21; (with_reducible refine EV.out.mono ?_); rintro e we ⟨rfl, hbe⟩)
                  have hTe := HT.out.below hbe
                  have hOe := owns_below HO.out hbe
                  have hWe : W ≤ we.heap.size := Nat.le_trans hWr hbe.size
                  have e0 := hTe.c0
                  have e1 := hTe.c1
                  refine wp_region_plan (fun w' => w'.cell? ⟨D, 0, none⟩ = some (.int .i64 num) ∧ w'.cell? ⟨D, 1, none⟩ = some (.slice o ws.length c)) [1, 5] (.take 0 (.take 1 (.take 2 (.take 3 (.take 4 (.take 5 (.take 6 (.take 7 (.take 8 (.ask 9 true (.ask 10 true (.ask 11 true (.ask 12 false (.take 13 (.take 14 .stop)) .stop) .stop) .stop) .stop)))))))))) (by kernel_rfl) (by kernel_rfl) (fun _ d _ _ _ h => by cases d <;> exact h) ⟨e0, e1⟩ ?_
                  have hTd := hTe.drew
                  have hOd : we.drew.ownsRow W 3 1 (.slice vo P1.length vc) P1.length (intsV P1) := hOe
                  have hWd : W ≤ we.drew.heap.size := hWe
                  clear e0 e1 hTe hOe hWe hbe c0 c1
                  generalize we.drew = wd at hTd hOd hWd ⊢
                  have hd1 : Hid (decide ((P1.length : Int) < (L : Int)) = false) := Lib.hid (decide_eq_false (by omega))
                  have hd2 : Hid (decide (P1.length < L) = false) := Lib.hid (decide_eq_false (by omega))
                  refine take_any _ ?_ rfl rfl ?_ (fun K hK => ?_); rotate_left; (intro w0; go_simp; (try rfl)); (go_simp; refine hK _ ?_; clear hK K)
                  refine take_held _ ?_ rfl rfl (by decide) ?_ (fun K hK => ?_); rotate_left; (intro w0 hw0; go_simp; (try rfl)); (go_simp; refine hK _ ?_; clear hK K)
                  refine take_any _ ?_ rfl rfl ?_ (fun K hK => ?_); rotate_left; (intro w0; go_simp; (try rfl)); (go_simp; refine hK _ ?_; clear hK K)
                  refine take_any _ ?_ rfl rfl ?_ (fun K hK => ?_); rotate_left; (intro w0; go_simp; (try rfl)); (go_simp; refine hK _ ?_; clear hK K)
                  try rw [hd1.out]
                  try rw [hd2.out]
                  refine take_any _ ?_ rfl rfl ?_ (fun K hK => ?_); rotate_left; (intro w0; go_simp; (try rfl)); (go_simp; refine hK _ ?_; clear hK K)
                  refine take_held _ ?_ rfl rfl (by decide) ?_ (fun K hK => ?_); rotate_left; (intro w0 hw0; go_simp; (try rfl)); (go_simp; refine hK _ ?_; clear hK K)
                  refine take_any _ ?_ rfl rfl ?_ (fun K hK => ?_); rotate_left; (intro w0; go_simp; (try rfl)); (go_simp; refine hK _ ?_; clear hK K)
                  refine take_any _ ?_ rfl rfl ?_ (fun K hK => ?_); rotate_left; (intro w0; go_simp; (try rfl)); (go_simp; refine hK _ ?_; clear hK K)
                  refine take_any _ ?_ rfl rfl ?_ (fun K hK => ?_); rotate_left; (intro w0; go_simp; (try rfl)); (go_simp; refine hK _ ?_; clear hK K)
                  have HTd := Lib.hid hTd
                  have HOd := Lib.hid hOd
                  have hgW : w.heap.size < W := by have h1 := hTd.gA; have h2 := hTd.AD; omega
                  clear hTd hOd
                  refine ask_step _ rfl trivial ?_; go_wp2_with (go_at_call 11; (with_reducible refine (NN.out _ HTd.out.hd).mono ?_); rintro e w6 ⟨⟨k, hk, rfl⟩, hg6, hd6⟩)
                  have hT6 := HTd.out.dice hg6 hd6
                  have hO6 := owns_grown HOd.out hg6 hgW
                  have hs6 := hg6.size
                  refine Seg.mk ⟨⟨hT6.c0, hT6.c1⟩, ?_⟩
                  refine ask_step _ rfl trivial ?_; go_wp2_with fail
                  have hT7 := hT6.alloc (.cells #[.int .i64 k] 3)
                  have HO7 := Lib.hid (hO6.alloc (.cells #[.int .i64 k] 3))
                  refine Seg.mk ⟨⟨hT7.c0, hT7.c1⟩, ?_⟩
                  have HT7 := Lib.hid hT7
                  clear hT7 hT6 hO6 hg6 hd6
                  refine ask_step _ rfl trivial ?_
                  go_wp2_with (at_builtin; refine wpList_append_want rfl (.tmp 94) (.tmp 98) 22 rfl W 3 i0 (.int .i64 0) 1 8 Try.underlying22 HI.out.1 HI.out.2.1 HI.out.2.2.1 HI.out.2.2.2 rfl (by decide) _ P1.length _ rfl HO7.out ⟨w6.heap.size, 0, none⟩ 1 1 [.int .i64 k] rfl rfl (cells_new _ _ _ _ rfl) (by intro u hu; simp at hu; subst hu; rfl) (by unfold maxLen; omega) (by omega) (by simp; omega) ?_; intro v2 w7 hO2 hg2)
                  have hT8 := HT7.out.own hDW HO7.out hg2
                  have hlen2 : (P1 ++ [(k : Int)]).length = P1.length + 1 := by simp
                  have hcl2 : intsV P1 ++ [.int .i64 k] = intsV (P1 ++ [(k : Int)]) := by simp [intsV]
                  rw [hcl2, ← hlen2] at hO2
                  obtain ⟨a2, c2, rfl, -, -⟩ := own_form2 hO2
                  have hz2 := ints_of_own hO2
                  have EV2 := ENP.out w7 _ _ hT8 hz2 (by rw [hlen2]; omega)
                  rw [HMO.out k, hlen2] at EV2
                  have EV2 := Lib.hid EV2
                  have HT8 := Lib.hid hT8
                  refine Seg.mk ⟨⟨hT8.c0, hT8.c1⟩, ?_⟩
                  clear hg2 hT8 hz2 hO2
                  refine ask_late _ rfl trivial ?_; go_wp2_with (go_at_call 21; (with_reducible refine EV2.out.mono ?_); rintro e w8 ⟨rfl, hb8⟩)
                  refine Seg.mk ?_
                  refine take_any _ ?_ rfl rfl ?_ (fun K hK => ?_); rotate_left; (intro w0; go_simp; (try rfl)); (go_simp; refine hK _ ?_; clear hK K)
                  refine take_any _ ?_ rfl rfl ?_ (fun K hK => ?_); rotate_left; (intro w0; go_simp; (try rfl)); (go_simp; refine hK _ ?_; clear hK K)
                  unfold wpPlan
                  go_wp2
                  go_roundw
                  case rel => exact ⟨m + 1, by omega, by go_num, by rw [HF2.out], HT8.out.below hb8⟩
                  case measure => simp [intOf]; omega
        · obtain rfl : m = E := by omega
          have hfe : foundB t L m (enB num ws) = true := by
            have := found_end HL.out
            rw [← HE.out] at this; exact this
          rw [hfe]
          have HTT := Lib.hid hT
          clear hT hfe HL HE
          go_wp2_with (go_at_call 9; (with_reducible refine (AW.out _).mono ?_); rintro e wz ⟨rfl, hbz⟩)
          go_ret
          exact ⟨rfl, (HTT.out.below hbz).hb⟩
end Go.Proofs.Ytefhhfpdponabaa
