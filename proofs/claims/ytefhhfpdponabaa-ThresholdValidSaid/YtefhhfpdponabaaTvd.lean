/- The walk of ThresholdValid. -/
import Derived.Test.YtefhhfpdponabaaTod
namespace Go.Proofs.Ytefhhfpdponabaa
open Go.ChangeShapes Go.WideShapes Go.ChangeAt Go.RowKit
set_option linter.unusedVariables false
set_option linter.unusedSimpArgs false

theorem tNumsB_go {w w' : World} {a : Option Addr} {len cap : Nat} {zs : List Int} (h : NumsB w.heap.size w a len cap zs) (hb : Below w.heap.size w w') : NumsB w'.heap.size w' a len cap zs := by
  obtain ⟨h1, h2, h3, h4⟩ := h.same hb.block
  exact ⟨h1, h2, fun j hj => by
    have := h3 j hj
    obtain ⟨b, off, e1, e2, e3⟩ := this
    exact ⟨b, off, e1, Nat.lt_of_lt_of_le e2 hb.size, e3⟩, h4⟩
theorem FrsAt.form {B : Nat} {w : World} {v : Value} {l : List FR} (h : FrsAt B w v l) : ∃ o c, v = .slice o l.length c := by
  obtain ⟨ao, cap, h1, -⟩ := h
  exact ⟨ao, cap, h1⟩
theorem FrssAt.form {B : Nat} {w : World} {v : Value} {ws : List (List FR)} (h : FrssAt B w v ws) : ∃ o c, v = .slice o ws.length c := by
  obtain ⟨ao, cap, h1, -⟩ := h
  exact ⟨ao, cap, h1⟩
theorem FrsAt.up {w w' : World} {v : Value} {l : List FR} (h : FrsAt w.heap.size w v l) (hb : Below w.heap.size w w') : FrsAt w'.heap.size w' v l := (h.below hb (Nat.le_refl _)).mono hb.size
theorem FrssAt.up {w w' : World} {v : Value} {ws : List (List FR)} (h : FrssAt w.heap.size w v ws) (hb : Below w.heap.size w w') : FrssAt w'.heap.size w' v ws := (h.below hb (Nat.le_refl _)).mono hb.size
/-- Two thresholds side by side and a list, through the law. -/
structure VSt (w0 : World) (E : Nat) (n0 : Int) (v0 : Value) (ws0 : List (List FR)) (n1 : Int) (v1 : Value) (ws1 : List (List FR)) (vl : Value) (l : List FR) (w : World) : Prop where
  he : Arr w E 25 [.int .i64 n0, v0, .int .i64 n1, v1]
  f0 : FrssAt w.heap.size w v0 ws0
  f1 : FrssAt w.heap.size w v1 ws1
  fl : FrsAt w.heap.size w vl l
  hb : Below w0.heap.size w0 w
/-- What is tried: a threshold that is short. -/
def Few (ws : List (List FR)) : Prop := ws.length ≤ 10 ∧ lenL ws ≤ 100
section
variable {w0 w w1 : World} {E : Nat} {n0 n1 : Int} {v0 v1 vl : Value} {ws0 ws1 : List (List FR)} {l : List FR}
theorem VSt.below (h : VSt w0 E n0 v0 ws0 n1 v1 ws1 vl l w) (hb : Below w.heap.size w w1) : VSt w0 E n0 v0 ws0 n1 v1 ws1 vl l w1 :=
  ⟨h.he.below hb h.he.lt, h.f0.up hb, h.f1.up hb, h.fl.up hb, h.hb.trans (hb.mono h.hb.size)⟩
theorem VSt.alloc (h : VSt w0 E n0 v0 ws0 n1 v1 ws1 vl l w) (x : Obj) : VSt w0 E n0 v0 ws0 n1 v1 ws1 vl l (w.alloc x) := h.below ((Below.refl w.heap.size w).alloc (Nat.le_refl _) x)
theorem VSt.pick (h : VSt w0 E n0 v0 ws0 n1 v1 ws1 vl l w) (b0 : Few ws0) (b1 : Few ws1) (j : Nat) (hj : j < 2) : ∃ ny oy cy wsy, w.cell? ⟨E, j * 2, none⟩ = some (.int .i64 ny) ∧ w.cell? ⟨E, j * 2 + 1, none⟩ = some (.slice oy wsy.length cy) ∧ FrssAt w.heap.size w (.slice oy wsy.length cy) wsy ∧ Few wsy := by
  obtain ⟨o0, c0, e0⟩ := h.f0.form
  obtain ⟨o1, c1, e1⟩ := h.f1.form
  match j, hj with
  | 0, _ => exact ⟨n0, o0, c0, ws0, h.he.cellAt rfl, by rw [← e0]; exact h.he.cellAt rfl, by rw [← e0]; exact h.f0, b0⟩
  | 1, _ => exact ⟨n1, o1, c1, ws1, h.he.cellAt rfl, by rw [← e1]; exact h.he.cellAt rfl, by rw [← e1]; exact h.f1, b1⟩
end
/-- And the one of them that is tried. -/
structure YSt (w0 : World) (E : Nat) (n0 : Int) (v0 : Value) (ws0 : List (List FR)) (n1 : Int) (v1 : Value) (ws1 : List (List FR)) (vl : Value) (l : List FR) (Y : Nat) (ny : Int) (vy : Value) (wsy : List (List FR)) (w : World) : Prop where
  hv : VSt w0 E n0 v0 ws0 n1 v1 ws1 vl l w
  hy : Arr w Y 25 [.int .i64 ny, vy]
  hf : FrssAt w.heap.size w vy wsy
section
variable {w0 w w1 : World} {E Y : Nat} {n0 n1 ny : Int} {v0 v1 vl vy : Value} {ws0 ws1 wsy : List (List FR)} {l : List FR}
theorem YSt.below (h : YSt w0 E n0 v0 ws0 n1 v1 ws1 vl l Y ny vy wsy w) (hb : Below w.heap.size w w1) : YSt w0 E n0 v0 ws0 n1 v1 ws1 vl l Y ny vy wsy w1 :=
  ⟨h.hv.below hb, h.hy.below hb h.hy.lt, h.hf.up hb⟩
theorem YSt.alloc (h : YSt w0 E n0 v0 ws0 n1 v1 ws1 vl l Y ny vy wsy w) (x : Obj) : YSt w0 E n0 v0 ws0 n1 v1 ws1 vl l Y ny vy wsy (w.alloc x) := h.below ((Below.refl w.heap.size w).alloc (Nat.le_refl _) x)
theorem YSt.drew (h : YSt w0 E n0 v0 ws0 n1 v1 ws1 vl l Y ny vy wsy w) : YSt w0 E n0 v0 ws0 n1 v1 ws1 vl l Y ny vy wsy w.drew := h.below (Below.refl w.heap.size w).drew
theorem YSt.c0 (h : YSt w0 E n0 v0 ws0 n1 v1 ws1 vl l Y ny vy wsy w) : w.cell? ⟨Y, 0, none⟩ = some (.int .i64 ny) := h.hy.cellAt rfl
theorem YSt.c1 (h : YSt w0 E n0 v0 ws0 n1 v1 ws1 vl l Y ny vy wsy w) : w.cell? ⟨Y, 1, none⟩ = some vy := h.hy.cellAt rfl
end
theorem four_keys (a b c d : Int) (j : Nat) (hj : j < 4) : ∃ k, [Value.int .i64 a, .int .i64 b, .int .i64 c, .int .i64 d][j]? = some (.int .i64 k) := by
  match j, hj with
  | 0, _ => exact ⟨a, rfl⟩
  | 1, _ => exact ⟨b, rfl⟩
  | 2, _ => exact ⟨c, rfl⟩
  | 3, _ => exact ⟨d, rfl⟩
theorem FrssK.full {K : Nat → Prop} {w : World} {o : Option Addr} {n c : Nat} {ws : List (List FR)} (h : FrssK K w (.slice o n c) ws) : FrssK K w (.slice o n n) ws := by
  obtain ⟨ao, cap, h1, h2, h3, h5⟩ := h
  cases h1
  exact ⟨o, ws.length, rfl, Nat.le_refl _, by omega, h5⟩
theorem tsame_boolN (b : Bool) : (b != b) = false := by cases b <;> rfl
theorem tsame_boolY (b : Bool) : (b == b) = true := by cases b <;> rfl
theorem few_odd {num : Int} {ws ws' : List (List FR)} {keys : Int} (hv : validB num ws keys = true) (h2 : ws.length ≤ 2) (h : ws' = ws ∨ ∃ l, ws' = ws ++ [l] ∧ l.length ≤ 2) : Few ws' := by
  have h8 := (valid_keys hv).2.2
  rcases h with rfl | ⟨l, rfl, hl⟩
  · exact ⟨by omega, by omega⟩
  · refine ⟨by rw [List.length_append]; show ws.length + 1 ≤ 10; omega, ?_⟩
    rw [lenL_snoc]; omega
set_option maxHeartbeats 3200000 in
set_option maxRecDepth 100000 in
theorem valid13_walk (a : Option Addr) (len cap : Nat) (zs : List Int) (rn : Int) (vr : Value) (rs : List (List FR)) (vl : Value) (l : List FR) (keys : Int) (w : World) (hn : NumsB w.heap.size w a len cap zs) (hr : FrssAt w.heap.size w vr rs) (hrn : in64 rn) (hl : FrsAt w.heap.size w vl l) (k1 : -9223372036854775808 ≤ keys) (k2 : keys ≤ 9223372036854775807) :
    Calls Try.prog 3 #[.slice a len cap, .agg #[.int .i64 rn, vr], vl, .int .i64 keys] w fun e w' => e = .returned (.bool true) ∧ Below w.heap.size w w' := by
  obtain ⟨ro, rc, rfl⟩ := hr.form
  obtain ⟨lo, lc, rfl⟩ := hl.form
  have AW := Lib.hid (fun (wx : World) => awake13_any wx)
  have LI := Lib.hid (fun wx : World => light_any a len cap wx)
  have MD := Lib.hid (fun wx : World => (show Calls Try.prog 14 #[.int .i64 keys, .int .i64 10] wx fun e w' => e = .returned (.int .i64 (keys % 10)) ∧ wx = w' from mod_any keys 10 wx (by decide) (by decide) k1 k2))
  have b0 := (Below.refl w.heap.size w).alloc (o := .cells #[.int .i64 rn, .slice ro rs.length rc] 25) (Nat.le_refl _)
  have a0 := Arr.new w [.int .i64 rn, .slice ro rs.length rc] 25
  have x1 : (w.alloc (.cells #[.int .i64 rn, .slice ro rs.length rc] 25)).cell? ⟨w.heap.size, 1, none⟩ = some (.slice ro rs.length rc) := a0.cellAt rfl
  by_cases h500 : (len : Int) ≤ 500
  rotate_left
  · rw [decide_eq_false h500] at LI
    clear h500
    go_enter Try.func3, Try.ntmps3
    go_wp2_with (first
      | (go_at_call 8; (with_reducible refine (LI.out _).mono ?_); rintro e w3 ⟨rfl, rfl⟩)
      | (go_at_call 9; (with_reducible refine (AW.out _).mono ?_); rintro e w1 ⟨rfl, hb1⟩))
    go_ret
    exact ⟨rfl, b0.trans (hb1.mono b0.size)⟩
  rw [decide_eq_true h500] at LI
  by_cases h10 : 10 < rs.length
  · have h10i : (10 : Int) < (rs.length : Int) := by omega
    clear h500
    go_enter Try.func3, Try.ntmps3
    go_wp2_with (first
      | (go_at_call 8; (with_reducible refine (LI.out _).mono ?_); rintro e w3 ⟨rfl, rfl⟩)
      | (go_at_call 9; (with_reducible refine (AW.out _).mono ?_); rintro e w1 ⟨rfl, hb1⟩))
    go_ret
    exact ⟨rfl, b0.trans (hb1.mono b0.size)⟩
  have h10i : ¬ (10 : Int) < (rs.length : Int) := by omega
  by_cases h20 : 20 < l.length
  · have h20i : (20 : Int) < (l.length : Int) := by omega
    clear h500
    go_enter Try.func3, Try.ntmps3
    go_wp2_with (first
      | (go_at_call 8; (with_reducible refine (LI.out _).mono ?_); rintro e w3 ⟨rfl, rfl⟩)
      | (go_at_call 9; (with_reducible refine (AW.out _).mono ?_); rintro e w1 ⟨rfl, hb1⟩))
    go_ret
    exact ⟨rfl, b0.trans (hb1.mono b0.size)⟩
  have h20i : ¬ (20 : Int) < (l.length : Int) := by omega
  clear h500 k1 k2 hrn
  go_enter Try.func3, Try.ntmps3
  go_upto_region 4 with (go_at_call 8; (with_reducible refine (LI.out _).mono ?_); rintro e w3 ⟨rfl, rfl⟩)
  obtain ⟨wA, hwA⟩ : ∃ wA, wA = w.alloc (.cells #[.int .i64 rn, .slice ro rs.length rc] 25) := ⟨_, rfl⟩
  have hsA : wA.heap.size = w.heap.size + 1 := by rw [hwA]; simp
  rw [← hwA] at a0 b0 x1 ⊢
  have HNA := Lib.hid (show NumsB wA.heap.size wA a len cap zs from by rw [hwA] at b0 ⊢; exact tNumsB_go hn b0)
  have HRS := Lib.hid (show FrssAt wA.heap.size wA (.slice ro rs.length rc) rs from hr.up b0)
  have HLA := Lib.hid (show FrsAt wA.heap.size wA (.slice lo l.length lc) l from hl.up b0)
  clear hwA hn hr hl
  go_loopw [42] (fun i wx => ∃ j : Nat, j ≤ rs.length ∧ i = .int .i64 j ∧ Hid (∀ k x, k < j → rs[k]? = some x → x.length ≤ 10) ∧ wA = wx) (fun i _ => rs.length - (intOf i).toNat)
  case atStart => exact ⟨0, Nat.zero_le _, rfl, Lib.hid (fun k x h => absurd h (by omega)), rfl⟩
  case round =>
    obtain ⟨j, hj, rfl, hall, rfl⟩ := hrel
    by_cases hlt : j < rs.length
    · obtain ⟨x, hx⟩ : ∃ x, rs[j]? = some x := ⟨_, List.getElem?_eq_getElem hlt⟩
      obtain ⟨ao, rc', hv, -, -, hcells⟩ := HRS.out
      cases hv
      obtain ⟨g, off, u, rfl, hg, c1, hF⟩ := hcells j x hx
      obtain ⟨o', c', rfl⟩ := hF.form
      clear hcells hF
      by_cases hx10 : 10 < x.length
      · have hx10i : (10 : Int) < (x.length : Int) := by omega
        go_wp2_with (go_at_call 9; (with_reducible refine (AW.out _).mono ?_); rintro e w1 ⟨rfl, hb1⟩)
        go_ret
        exact ⟨rfl, b0.trans (hb1.mono b0.size)⟩
      · have hx10i : ¬ (10 : Int) < (x.length : Int) := by omega
        have HA2 := Lib.hid (show ∀ k y, k < j + 1 → rs[k]? = some y → y.length ≤ 10 from fun k y hk hy => by
          by_cases e : k = j
          · subst e; rw [hx] at hy; cases hy; omega
          · exact hall.out k y (by omega) hy)
        clear hx hall
        go_wp2
        exact ⟨⟨j + 1, by omega, by go_num, HA2, by first | trivial | rfl⟩, by simp [intOf]; omega⟩
    · obtain rfl : j = rs.length := by omega
      have hfr : Few rs := ⟨by omega, by
        have h1 := lenL_le rs 10 (fun x hx => by
          obtain ⟨i, hi⟩ := List.getElem?_of_mem hx
          have hil : i < rs.length := (List.getElem?_eq_some_iff.1 hi).1
          exact hall.out i x hil hi)
        have : 10 * rs.length ≤ 10 * 10 := Nat.mul_le_mul_left _ (by omega)
        omega⟩
      have HFR := Lib.hid hfr
      have RO := Lib.hid (roll_any a len cap zs wA HNA.out)
      have N9 := Lib.hid (fun (wx : World) (h : DiceAt wA.heap.size wx wA.heap.size) => next_lit wA.heap.size wA.heap.size 9 9 rfl wx (by decide) (by decide) h)
      have KT := Lib.hid (fun (wx : World) (n : Nat) (hn : n ≤ 8) (h : DiceAt wA.heap.size wx wA.heap.size) => kthr_any wA.heap.size wA.heap.size n wx hn h)
      have HB0 := Lib.hid b0
      have HA0 := Lib.hid a0
      clear hfr hall LI b0 a0 h10 h20 h10i h20i x1 HNA
      have HS := Lib.hid hsA
      clear hsA
      go_upto_region 11 with (first
        | (go_at_call 10; (with_reducible refine (RO.out).mono ?_); rintro e w1 ⟨rfl, hb1, hd1⟩)
        | (go_at_call 11; (with_reducible refine (N9.out _ hd1).mono ?_); rintro e w2 ⟨⟨n, hn9, rfl⟩, hg2, hd2⟩))
      have hn8 : n ≤ 8 := by omega
      go_upto_region 12 with (first
        | (go_at_call 13; (with_reducible refine (KT.out _ n (by omega) hd2).mono ?_); rintro e w4 ⟨⟨num, ws, o, c, rfl, hin, hval, hws, h64, rfl⟩, hg4, hd4⟩; have OD := odd_any wA.heap.size wA.heap.size w2.heap.size num o ws w4 hd4 hd2.lt hg4.size hin.keep.conc hws h64)
        | (go_at_call 12; (with_reducible refine OD.mono ?_); clear OD; rintro e w5 ⟨⟨n0, ws0, v0, rfl, hf0, hn0, hch⟩, hg5⟩; obtain ⟨o0, c0, rfl⟩ := hf0.form))
      have hfew := few_odd hval hws hch
      have hb5 : Below wA.heap.size wA w5 := gbelow (gbelow (gbelow hb1 hg2 hb1.size (Nat.le_refl _)) hg4 (by have := hb1.size; have := hg2.size; omega) (Nat.le_refl _)) hg5 (by have := hb1.size; have := hg2.size; have := hg4.size; omega) (Nat.le_refl _)
      have HB5 := Lib.hid hb5
      have HF0 := Lib.hid hf0
      have HW0 := Lib.hid hfew
      clear hb1 hd1 hg2 hd2 hin hval hws h64 hg4 hd4 hch hg5 hf0 hfew hb5 N9 KT RO hn9 hn0
      have b6 := (Below.refl w5.heap.size w5).alloc (o := .cells #[.int .i64 n0, .slice o0 ws0.length c0] 25) (Nat.le_refl _)
      have b7 := b6.alloc (o := .cells #[.int .i64 n0, .slice o0 ws0.length c0, .int .i64 rn, .slice ro rs.length rc] 25) b6.size
      have HV := Lib.hid (show VSt w (w5.heap.size + 1) n0 (.slice o0 ws0.length c0) ws0 rn (.slice ro rs.length rc) rs (.slice lo l.length lc) l ((w5.alloc (.cells #[.int .i64 n0, .slice o0 ws0.length c0] 25)).alloc (.cells #[.int .i64 n0, .slice o0 ws0.length c0, .int .i64 rn, .slice ro rs.length rc] 25)) from
        ⟨Arr.new2 w5 _ [.int .i64 n0, .slice o0 ws0.length c0, .int .i64 rn, .slice ro rs.length rc] 25, HF0.out.up b7, (HRS.out.up HB5.out).up b7, (HLA.out.up HB5.out).up b7, (HB0.out.trans (HB5.out.mono HB0.out.size)).trans (b7.mono (HB0.out.trans (HB5.out.mono HB0.out.size)).size)⟩)
      have HX := Lib.hid (Arr.new w5 [.int .i64 n0, .slice o0 ws0.length c0] 25)
      have HR := Lib.hid ((HA0.out.below HB5.out HA0.out.lt).alloc (.cells #[.int .i64 n0, .slice o0 ws0.length c0] 25))
      clear b6 b7 HF0 HRS HLA HB0 HB5 HA0
      have y0 := HX.out.cellAt (j := 0) rfl
      have y1 := HX.out.cellAt (j := 1) rfl
      have z0 := HR.out.cellAt (j := 0) rfl
      have z1 := HR.out.cellAt (j := 1) rfl
      go_wp2
      clear y0 y1 z0 z1 HX HR
      generalize (w5.alloc (.cells #[.int .i64 n0, .slice o0 ws0.length c0] 25)).alloc (.cells #[.int .i64 n0, .slice o0 ws0.length c0, .int .i64 rn, .slice ro rs.length rc] 25) = wE at HV ⊢
      generalize w5.heap.size + 1 = E at HV ⊢
      obtain ⟨v0, hv0⟩ : ∃ v0, v0 = Value.slice o0 ws0.length c0 := ⟨_, rfl⟩
      rw [← hv0] at HV
      have hVE := HV.out
      clear HV hv0
      go_loopw [64] (fun i wx => ∃ j : Nat, j ≤ 2 ∧ i = .int .i64 j ∧ VSt w E n0 v0 ws0 rn (.slice ro rs.length rc) rs (.slice lo l.length lc) l wx) (fun i _ => 2 - (intOf i).toNat)
      case atStart => exact ⟨0, Nat.zero_le _, rfl, hVE⟩
      case round =>
        clear hVE
        obtain ⟨j, hj, rfl, hV⟩ := hrel
        by_cases hlt2 : j < 2
        · obtain ⟨ny, oy, cy, wsy, e0, e1, hfy, hfw⟩ := hV.pick HW0.out HFR.out j hlt2
          have HFW := Lib.hid hfw
          have hYS : YSt w E n0 v0 ws0 rn (.slice ro rs.length rc) rs (.slice lo l.length lc) l wr.heap.size ny (.slice oy wsy.length cy) wsy (wr.alloc (.cells #[.int .i64 ny, .slice oy wsy.length cy] 25)) :=
            ⟨hV.alloc _, Arr.new wr [.int .i64 ny, .slice oy wsy.length cy] 25, hfy.up ((Below.refl wr.heap.size wr).alloc (Nat.le_refl _) _)⟩
          have HYS := Lib.hid hYS
          clear hV hfy hfw hYS
          go_upto_region 15 with fail
          clear e0 e1
          generalize wr.alloc (.cells #[.int .i64 ny, .slice oy wsy.length cy] 25) = wq at HYS ⊢
          generalize wr.heap.size = Y at HYS ⊢
          go_wp2_with (go_at_call 14; (with_reducible refine (MD.out _).mono ?_); rintro e w8 ⟨rfl, rfl⟩)
          have hYK := HYS.out.alloc (.cells #[.int .i64 keys, .int .i64 (n : Int), .int .i64 ((n : Int) + 1), .int .i64 (keys % 10)] 3)
          have hKS := Arr.new wq [.int .i64 keys, .int .i64 (n : Int), .int .i64 ((n : Int) + 1), .int .i64 (keys % 10)] 3
          clear HYS
          generalize wq.alloc _ = wk at hYK hKS ⊢
          generalize wq.heap.size = KS at hKS ⊢
          obtain ⟨q3, hq3⟩ : ∃ q3, q3 = keys % 10 := ⟨_, rfl⟩
          obtain ⟨q2, hq2⟩ : ∃ q2, q2 = (n : Int) + 1 := ⟨_, rfl⟩
          rw [← hq3, ← hq2] at hKS
          clear hq3 hq2
          go_loopw [76] (fun i wx => ∃ j : Nat, j ≤ 4 ∧ i = .int .i64 j ∧ YSt w E n0 v0 ws0 rn (.slice ro rs.length rc) rs (.slice lo l.length lc) l Y ny (.slice oy wsy.length cy) wsy wx ∧ Arr wx KS 3 [.int .i64 keys, .int .i64 (n : Int), .int .i64 q2, .int .i64 q3]) (fun i _ => 4 - (intOf i).toNat)
          case atStart => exact ⟨0, Nat.zero_le _, rfl, hYK, hKS⟩
          case round =>
            clear hYK hKS
            obtain ⟨i, hi, rfl, hYS, hKS⟩ := hrel
            by_cases hlt4 : i < 4
            · obtain ⟨k, hk⟩ := four_keys keys (n : Int) q2 q3 i hlt4
              have ek := hKS.cellAt hk
              go_upto_region 18 with fail
              clear ek hk
              have c0 := hYS.c0
              have c1 := hYS.c1
              refine wp_region_plan (fun w' => w'.cell? ⟨Y, 0, none⟩ = some (.int .i64 ny) ∧ w'.cell? ⟨Y, 1, none⟩ = some (.slice oy wsy.length cy)) [0, 3, 8, 11] (.take 0 (.take 1 (.take 3 (.take 4 (.ask 2 true (.ask 5 true (.take 6 (.take 7 (.take 8 (.take 9 (.take 11 (.take 12 (.ask 10 true (.ask 13 false (.take 14 (.take 15 .stop)) .stop) .stop))))))) .stop) .stop))))) (by kernel_rfl) (by kernel_rfl) (fun _ d _ _ _ h => by cases d <;> exact h) ⟨c0, c1⟩ ?_
              have HYd := Lib.hid hYS.drew
              have HKd := Lib.hid hKS.drew
              clear c0 c1 hYS hKS
              generalize wr.drew = wd at HYd HKd ⊢
              have TV := Lib.hid (fun (wx : World) (h : YSt w E n0 v0 ws0 rn (.slice ro rs.length rc) rs (.slice lo l.length lc) l Y ny (.slice oy wsy.length cy) wsy wx) => tvalid_any wx.heap.size ny _ wsy k wx h.hf (Nat.le_refl _) (by have := HFW.out.1; omega) (by have := HFW.out.2; omega))
              have RV := Lib.hid (fun (wx : World) (h : YSt w E n0 v0 ws0 rn (.slice ro rs.length rc) rs (.slice lo l.length lc) l Y ny (.slice oy wsy.length cy) wsy wx) => rvalid13_any wx.heap.size ny _ wsy k wx h.hf (Nat.le_refl _) (by have := HFW.out.1; omega))
              have TL := Lib.hid (fun (wx : World) (h : YSt w E n0 v0 ws0 rn (.slice ro rs.length rc) rs (.slice lo l.length lc) l Y ny (.slice oy wsy.length cy) wsy wx) => tleast_any wx.heap.size ny _ wsy k wx h.hf (Nat.le_refl _) (by have := HFW.out.1; omega) (by have := HFW.out.2; omega))
              have RL := Lib.hid (fun (wx : World) (h : YSt w E n0 v0 ws0 rn (.slice ro rs.length rc) rs (.slice lo l.length lc) l Y ny (.slice oy wsy.length cy) wsy wx) => rleast13_any wx.heap.size ny _ wsy k wx h.hf (Nat.le_refl _) (by have := HFW.out.1; omega))
              generalize validB ny wsy k = q at TV RV
              generalize leastI ny wsy k = z at TL RL
              have qn := tsame_boolN q
              have qy := tsame_boolY q
              refine take_held _ ?_ rfl rfl (by decide) ?_ (fun K hK => ?_); rotate_left; (intro w0 hw0; go_simp; (try rfl)); (go_simp; refine hK _ ?_; clear hK K)
              refine take_any _ ?_ rfl rfl ?_ (fun K hK => ?_); rotate_left; (intro w0; go_simp; (try rfl)); (go_simp; refine hK _ ?_; clear hK K)
              refine take_held _ ?_ rfl rfl (by decide) ?_ (fun K hK => ?_); rotate_left; (intro w0 hw0; go_simp; (try rfl)); (go_simp; refine hK _ ?_; clear hK K)
              refine take_any _ ?_ rfl rfl ?_ (fun K hK => ?_); rotate_left; (intro w0; go_simp; (try rfl)); (go_simp; refine hK _ ?_; clear hK K)
              refine ask_step _ rfl trivial ?_; go_wp2_with (go_at_call 15; (with_reducible refine (TV.out _ HYd.out).mono ?_); rintro e w5 ⟨rfl, hb5⟩; have HY5 := Lib.hid (HYd.out.below hb5); have HK5 := Lib.hid (HKd.out.below hb5 HKd.out.lt); clear hb5); refine Seg.mk ⟨⟨HY5.out.c0, HY5.out.c1⟩, ?_⟩
              refine ask_step _ rfl trivial ?_; go_wp2_with (go_at_call 16; (with_reducible refine (RV.out _ HY5.out).mono ?_); rintro e w6 ⟨rfl, hb6⟩; have HY6 := Lib.hid (HY5.out.below hb6); have HK6 := Lib.hid (HK5.out.below hb6 HK5.out.lt); clear hb6); refine Seg.mk ⟨⟨HY6.out.c0, HY6.out.c1⟩, ?_⟩
              refine take_any _ ?_ rfl rfl ?_ (fun K hK => ?_); rotate_left; (intro w0; go_simp; (try rfl)); (go_simp; refine hK _ ?_; clear hK K)
              refine take_any _ ?_ rfl rfl ?_ (fun K hK => ?_); rotate_left; (intro w0; go_simp; (try rfl)); (go_simp; refine hK _ ?_; clear hK K)
              refine take_held _ ?_ rfl rfl (by decide) ?_ (fun K hK => ?_); rotate_left; (intro w0 hw0; go_simp; (try rfl)); (go_simp; refine hK _ ?_; clear hK K)
              refine take_any _ ?_ rfl rfl ?_ (fun K hK => ?_); rotate_left; (intro w0; go_simp; (try rfl)); (go_simp; refine hK _ ?_; clear hK K)
              refine take_held _ ?_ rfl rfl (by decide) ?_ (fun K hK => ?_); rotate_left; (intro w0 hw0; go_simp; (try rfl)); (go_simp; refine hK _ ?_; clear hK K)
              refine take_any _ ?_ rfl rfl ?_ (fun K hK => ?_); rotate_left; (intro w0; go_simp; (try rfl)); (go_simp; refine hK _ ?_; clear hK K)
              refine ask_step _ rfl trivial ?_; go_wp2_with (go_at_call 17; (with_reducible refine (TL.out _ HY6.out).mono ?_); rintro e w7 ⟨rfl, hb7⟩; have HY7 := Lib.hid (HY6.out.below hb7); have HK7 := Lib.hid (HK6.out.below hb7 HK6.out.lt); clear hb7); refine Seg.mk ⟨⟨HY7.out.c0, HY7.out.c1⟩, ?_⟩
              refine ask_late _ rfl trivial ?_; go_wp2_with (go_at_call 18; (with_reducible refine (RL.out _ HY7.out).mono ?_); rintro e w8 ⟨rfl, hb8⟩; have HY8 := Lib.hid (HY7.out.below hb8); have HK8 := Lib.hid (HK7.out.below hb8 HK7.out.lt); clear hb8); refine Seg.mk ?_
              refine take_any _ ?_ rfl rfl ?_ (fun K hK => ?_); rotate_left; (intro w0; go_simp; (try rfl)); (go_simp; refine hK _ ?_; clear hK K)
              refine take_any _ ?_ rfl rfl ?_ (fun K hK => ?_); rotate_left; (intro w0; go_simp; (try rfl)); (go_simp; refine hK _ ?_; clear hK K)
              unfold wpPlan
              go_wp2
              go_roundw
              case rel => exact ⟨i + 1, by omega, by go_num, HY8.out, HK8.out⟩
              case measure => simp [intOf]; omega
            · obtain rfl : i = 4 := by omega
              have c1 := hYS.c1
              obtain ⟨hcl, had⟩ : wsy.length ≤ cy ∧ (if wsy.length = 0 then oy else Option.map (fun x => x.add 0) oy) = oy := by
                obtain ⟨ao, cap', hv, h1, -, h3⟩ := hYS.hf
                cases hv
                refine ⟨h1, ?_⟩
                by_cases h0 : wsy.length = 0
                · rw [if_pos h0]
                · rw [if_neg h0]
                  obtain ⟨g, off, u, e, -⟩ := h3 0 _ (List.getElem?_eq_getElem (by omega))
                  rw [e]; rfl
              have hcli : (wsy.length : Int) ≤ (cy : Int) := by omega
              have HYr := Lib.hid (hYS.alloc (.cells #[.slice lo l.length lc] 26))
              have HNr := Lib.hid (Arr.new wr [.slice lo l.length lc] 26)
              have HFK := Lib.hid (FrssK.of HYr.out.hf)
              have HFL := Lib.hid (FrsK.of HYr.out.hv.fl)
              have hsr : (wr.alloc (.cells #[.slice lo l.length lc] 26)).heap.size = wr.heap.size + 1 := by simp
              have HSR := Lib.hid hsr
              have HAD := Lib.hid had
              have HWL := Lib.hid (show wsy.length ≤ 1000000 by have := HFW.out.1; omega)
              clear hsr had hYS hKS
              go_wp2_with (at_builtin; refine wpList_append_full rfl (.tmp 105) (.tmp 107) rfl (fun b => b < (wr.alloc (.cells #[.slice lo l.length lc] 26)).heap.size) (fun b => b < (wr.alloc (.cells #[.slice lo l.length lc] 26)).heap.size + 1) _ wsy.length wsy rfl HFK.out.full (fun b hb => ⟨Nat.lt_succ_of_lt hb, hb⟩) (Nat.lt_succ_self _) HWL.out ⟨wr.heap.size, 0, none⟩ 1 (.slice lo l.length lc) l rfl (HNr.out.cellAt rfl) HFL.out (wr.heap.size + 1) HSR.out ?_; intro cap6 w6 hb6 hs6 hf6)
              have HV6 := Lib.hid (HYr.out.hv.below hb6)
              have HF6 := Lib.hid (show FrssAt w6.heap.size w6 (.slice (some ⟨wr.heap.size + 1, 0, none⟩) (wsy.length + 1) cap6) (wsy ++ [l]) from hf6.at (fun b hb => by rw [hs6]; exact hb))
              clear hb6 hs6 hf6 HYr HNr HFK HFL HSR HAD
              generalize wr.heap.size + 1 = H at HF6 ⊢
              go_wp2
              have hV6 := HV6.out
              have hF6 := HF6.out
              clear HV6 HF6
              go_loopw [110] (fun i wx => ∃ t : Nat, t ≤ wsy.length + 1 ∧ i = .int .i64 t ∧ VSt w E n0 v0 ws0 rn (.slice ro rs.length rc) rs (.slice lo l.length lc) l wx ∧ FrssAt wx.heap.size wx (.slice (some ⟨H, 0, none⟩) (wsy.length + 1) cap6) (wsy ++ [l])) (fun i _ => wsy.length + 1 - (intOf i).toNat)
              case atStart => exact ⟨0, Nat.zero_le _, rfl, hV6, hF6⟩
              case round =>
                clear hV6 hF6 c1 hcl hcli
                obtain ⟨t, ht, rfl, hV, hF⟩ := hrel
                by_cases hle : t ≤ wsy.length
                · have hlt : t < wsy.length + 1 := by omega
                  have hlti : (t : Int) < (wsy.length : Int) + 1 := by omega
                  have hlei : (t : Int) ≤ (wsy.length : Int) := by omega
                  have htb : (t : Int) ≤ 10 := by have := HFW.out.1; omega
                  obtain ⟨x, hx⟩ : ∃ x, (wsy ++ [l])[t]? = some x := ⟨_, List.getElem?_eq_getElem (by rw [List.length_append]; exact hlt)⟩
                  obtain ⟨u, cu, hFu⟩ : ∃ u, wr.cell? ⟨H, t, none⟩ = some u ∧ FrsAt wr.heap.size wr u x := by
                    obtain ⟨ao, cap', hv, -, -, h5⟩ := hF
                    injection hv with e1 e2 e3
                    obtain ⟨g, off, u, e, hg, c1, hFu⟩ := h5 t x hx
                    rw [← e1] at e
                    cases e
                    rw [Nat.zero_add] at c1
                    exact ⟨u, c1, hFu⟩
                  obtain ⟨o', c', rfl⟩ := hFu.form
                  have TS := Lib.hid (fun (wx : World) (h : FrsAt wx.heap.size wx (.slice o' x.length c') x) => tsum_any wx.heap.size _ x wx h (Nat.le_refl _))
                  have RS := Lib.hid (fun (wx : World) (h : FrsAt wx.heap.size wx (.slice o' x.length c') x) => rsum13_any wx.heap.size _ x wx h (Nat.le_refl _))
                  generalize (sumR x).1 = p at TS RS
                  generalize (sumR x).2 = q at TS RS
                  generalize sumE x = ee at TS RS
                  have HFU := Lib.hid hFu
                  have HV := Lib.hid hV
                  have HF := Lib.hid hF
                  clear hx hFu hV hF
                  go_upto_region 26 with (first
                    | (go_at_call 19; (with_reducible refine (TS.out _ HFU.out).mono ?_); rintro e w7 ⟨rfl, hb7⟩; have B7 := Lib.hid (hb7.alloc (o := .cells #[.int .i64 (p : Int), .int .i64 (q : Int)] 39) hb7.size); have HA7 := Lib.hid (Arr.new w7 [.int .i64 (p : Int), .int .i64 (q : Int)] 39); have HF7 := Lib.hid (HFU.out.up B7.out); clear hb7)
                    | (go_at_call 20; (with_reducible refine (RS.out _ HF7.out).mono ?_); rintro e w8 ⟨rfl, hb8⟩; have B8 := Lib.hid (hb8.alloc (o := .cells #[.int .i64 (p : Int), .int .i64 (q : Int)] 39) hb8.size); have HA8 := Lib.hid (Arr.new w8 [.int .i64 (p : Int), .int .i64 (q : Int)] 39); clear hb8))
                  clear cu
                  have HA9 := HA7.out.below B8.out HA7.out.lt
                  have hA8 := HA8.out
                  have hV9 := (HV.out.below B7.out).below B8.out
                  have hF9 := (HF.out.up B7.out).up B8.out
                  clear B7 HA7 HF7 HFU B8 HA8 HV HF
                  generalize w8.alloc (.cells #[.int .i64 (p : Int), .int .i64 (q : Int)] 39) = w9 at HA9 hA8 hV9 hF9 ⊢
                  have z1 := HA9.cellAt (j := 0) rfl
                  have z2 := HA9.cellAt (j := 1) rfl
                  have z3 := hA8.cellAt (j := 0) rfl
                  have z4 := hA8.cellAt (j := 1) rfl
                  have fg := frac_guard
                  have fn := fun wx : World => frac_neq_same wx (p : Int) (q : Int)
                  have HV9 := Lib.hid hV9
                  have HF9 := Lib.hid hF9
                  clear HA9 hA8 hV9 hF9
                  go_wp2
                  exact ⟨⟨t + 1, by omega, by go_num, HV9.out, HF9.out⟩, by simp [intOf]; omega⟩
                · obtain rfl : t = wsy.length + 1 := by omega
                  clear hle
                  go_wp2
                  exact ⟨⟨j + 1, by omega, by go_num, hV⟩, by simp [intOf]; omega⟩
        · obtain rfl : j = 2 := by omega
          go_wp2_with (go_at_call 9; (with_reducible refine (AW.out _).mono ?_); rintro e w1 ⟨rfl, hb1⟩)
          go_ret
          exact ⟨rfl, hV.hb.trans (hb1.mono hV.hb.size)⟩
end Go.Proofs.Ytefhhfpdponabaa
