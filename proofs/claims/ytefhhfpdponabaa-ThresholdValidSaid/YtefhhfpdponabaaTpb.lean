/- The program's Sum, reachesOne, countWeights. -/
import Derived.Test.YtefhhfpdponabaaTpa
namespace Go.Proofs.Ytefhhfpdponabaa
open Go.ChangeShapes Go.WideShapes Go.ChangeAt Go.RowKit
set_option linter.unusedVariables false
set_option linter.unusedSimpArgs false

/-- One weight more, out of at most eight. -/
theorem add_ok {l : List FR} {j N D n d : Nat} {f : FR} (h8 : l.length ≤ 8) (hl : ∀ k g, k < j → l[k]? = some g → wtB g = true) (hf : l[j]? = some f) (hw : wtB f = true) (hND : (l.take j).foldl stepF (0, 1) = (N, D)) (hn : f.1 = (n : Int)) (hd : f.2 = (d : Int)) :
    ∃ N' D', AddOk N D n d N' D' ∧ (l.take (j + 1)).foldl stepF (0, 1) = (N', D') := by
  have hlt : j < l.length := by
    rcases Nat.lt_or_ge j l.length with h | h
    · exact h
    · rw [List.getElem?_eq_none h] at hf; cases hf
  have hbd := sumF_bound (l.take j) (0, 1) 0 (by decide) (by decide) (by decide) (fun g hg => by
    obtain ⟨i, hi⟩ := List.getElem?_of_mem hg
    have hij : i < j := by
      rcases Nat.lt_or_ge i j with h | h
      · exact h
      · rw [List.getElem?_eq_none (by rw [List.length_take]; omega)] at hi; cases hi
    rw [List.getElem?_take, if_pos hij] at hi
    exact hl i g hij hi)
  rw [hND] at hbd
  have hlen : (l.take j).length = j := by rw [List.length_take]; omega
  rw [hlen] at hbd
  simp only [Nat.zero_add] at hbd
  obtain ⟨D0, D1, N1⟩ := hbd
  have hw5 := (wtB_iff f).1 hw
  have hp : (100 : Nat) ^ j ≤ 100 ^ 7 := Nat.pow_le_pow_right (by decide) (by omega)
  have hD : D ≤ 100000000000000 := Nat.le_trans D1 hp
  have hN : N ≤ 7 * D := Nat.le_trans N1 (Nat.mul_le_mul_right _ (by omega))
  have hd1 : 1 ≤ d ∧ d ≤ 100 ∧ n ≤ d := by omega
  have B1 : N * d ≤ 700000000000000 * 100 := Nat.mul_le_mul (by omega) hd1.2.1
  have B2 : n * D ≤ 100 * 100000000000000 := Nat.mul_le_mul (by omega) hD
  have B3 : D * d ≤ 100000000000000 * 100 := Nat.mul_le_mul hD hd1.2.1
  refine ⟨_, _, ⟨by omega, by omega, by omega, Nat.mul_pos D0 (by omega), rfl⟩, ?_⟩
  rw [List.take_add_one, hf, List.foldl_append, hND]
  show stepF (N, D) f = _
  rw [show f = ((n : Int), (d : Int)) from Prod.ext hn hd]
  rfl
set_option maxHeartbeats 1600000 in
set_option maxRecDepth 100000 in
theorem tsum_any (B : Nat) (v : Value) (l : List FR) (w : World) (hv : FrsAt B w v l) (hB : B ≤ w.heap.size) : Calls Try.prog 19 #[v] w fun e w' => e = .returned (.tuple #[.agg #[.int .i64 ((sumR l).1 : Nat), .int .i64 ((sumR l).2 : Nat)], .int .i64 (sumE l)]) ∧ Below w.heap.size w w' := by
  obtain ⟨ao, cap, rfl, hcl, hcm, h64, hcells⟩ := hv
  obtain ⟨RV, hRV⟩ : ∃ RV : Value, RV = .tuple #[.agg #[.int .i64 ((sumR l).1 : Nat), .int .i64 ((sumR l).2 : Nat)], .int .i64 (sumE l)] := ⟨_, rfl⟩
  rw [← hRV]
  have HRV := Lib.hid hRV
  clear hRV
  have a0 := Arr.new w [.int .i64 0, .int .i64 0] 39
  have b0 := (Below.refl w.heap.size w).alloc (o := .cells #[.int .i64 0, .int .i64 0] 39) (Nat.le_refl _)
  by_cases h8 : 8 < l.length
  · have h8i : (8 : Int) < (l.length : Int) := by omega
    have e3 : sumE l = 3 := by unfold sumE; rw [if_pos h8]
    have er : sumR l = (0, 0) := by unfold sumR; rw [if_neg (by rw [e3]; decide)]
    have hR := HRV.out
    rw [er, e3] at hR
    subst hR
    clear HRV e3 er
    go_enter Try.func19, Try.ntmps19
    go_wp2
    exact ret_frac a0 rfl rfl rfl rfl ⟨rfl, b0⟩
  have h8i : ¬ ((8 : Int) < (l.length : Int)) := by omega
  have h8n : l.length ≤ 8 := by omega
  go_enter Try.func19, Try.ntmps19
  go_upto_region 4 with fail
  have hb0 := b0.alloc (o := .cells #[.int .i64 0, .int .i64 1] 39) b0.size
  have hA0 := a0.alloc (.cells #[.int .i64 0, .int .i64 1] 39)
  have hS0 := Arr.new (w.alloc (.cells #[.int .i64 0, .int .i64 0] 39)) [.int .i64 0, .int .i64 1] 39
  obtain ⟨b6, hb6⟩ : ∃ b6, b6 = w.heap.size + 1 := ⟨_, rfl⟩
  have hlt6 : w.heap.size < b6 := by omega
  have hsz6 : (w.alloc (.cells #[.int .i64 0, .int .i64 0] 39)).heap.size = b6 := by simp [hb6]
  rw [hsz6] at hS0
  rw [← hb6]
  clear b0 a0 hb6 hsz6
  go_wp2
  go_loopw [14] (fun i wx => ∃ j N D : Nat, j ≤ l.length ∧ i = .int .i64 j ∧ Hid (∀ k f, k < j → l[k]? = some f → wtB f = true) ∧ Hid ((l.take j).foldl stepF (0, 1) = (N, D)) ∧ Arr wx w.heap.size 39 [.int .i64 0, .int .i64 0] ∧ Arr wx b6 39 [.int .i64 N, .int .i64 D] ∧ Below w.heap.size w wx) (fun i _ => l.length - (intOf i).toNat)
  case atStart => exact ⟨0, 0, 1, Nat.zero_le _, rfl, Lib.hid (fun k f h => absurd h (by omega)), Lib.hid rfl, hA0, hS0, hb0⟩
  case round =>
    clear hA0 hS0 hb0
    obtain ⟨j, N, D, hj, rfl, hall, hND, hA, hS, hb⟩ := hrel
    have hbs := hb.size
    by_cases hlt : j < l.length
    · obtain ⟨f, hf⟩ : ∃ f, l[j]? = some f := ⟨_, List.getElem?_eq_getElem hlt⟩
      obtain ⟨g, off, rfl, hg, c1, c2⟩ := hcells j f hf
      have d1 := (hb.cell (p := ⟨g, _, none⟩) (by show g < w.heap.size; omega)).trans c1
      have d2 := (hb.cell (p := ⟨g, _, none⟩) (by show g < w.heap.size; omega)).trans c2
      have WT := Lib.hid (fun wx => tweight_any f.1 f.2 wx (h64 f (List.mem_of_getElem? hf)).1 (h64 f (List.mem_of_getElem? hf)).2)
      have HC := Lib.hid hcells
      have hA2 := hA.alloc (.cells #[.int .i64 f.1, .int .i64 f.2] 39)
      have hS2 := hS.alloc (.cells #[.int .i64 f.1, .int .i64 f.2] 39)
      have hb2 := hb.alloc (o := .cells #[.int .i64 f.1, .int .i64 f.2] 39) hbs
      have hF := Arr.new wr [.int .i64 f.1, .int .i64 f.2] 39
      have hne : b6 < wr.heap.size := hS.lt
      clear c1 c2 hcells
      cases hw : wtB f with
      | true =>
        rw [show (f.1, f.2) = f from rfl, hw] at WT
        have hall' : ∀ k g, k < j + 1 → l[k]? = some g → wtB g = true := fun k g hk hg => by
          by_cases e : k = j
          · subst e; rw [hf] at hg; cases hg; exact hw
          · exact hall.out k g (by omega) hg
        have HA' := Lib.hid hall'
        have hw5 := (wtB_iff f).1 hw
        obtain ⟨n, hn⟩ : ∃ n : Nat, f.1 = (n : Int) := ⟨f.1.toNat, by omega⟩
        obtain ⟨d, hd⟩ : ∃ d : Nat, f.2 = (d : Int) := ⟨f.2.toNat, by omega⟩
        obtain ⟨N', D', hok, hnx⟩ := add_ok h8n hall.out hf hw hND.out hn hd
        have HNX := Lib.hid hnx
        have AD := Lib.hid (fun wx => tadd_any N D n d N' D' wx hok)
        rw [hn, hd] at hA2 hS2 hb2 hF WT
        rw [hn] at d1
        rw [hd] at d2
        clear hall hall' hw hw5 hnx hok hND hA hS hb hn hd hf
        go_upto_region 7 with fail
        generalize wr.alloc _ = wq at hA2 hS2 hb2 hF ⊢
        generalize wr.heap.size = b8 at hF hne ⊢
        clear d1 d2
        have y1 : wq.cell? ⟨b8, 0, none⟩ = some (.int .i64 n) := hF.cellAt rfl
        have y2 : wq.cell? ⟨b8, 1, none⟩ = some (.int .i64 d) := hF.cellAt rfl
        have hF0 := hF
        go_upto_region 9 with (go_at_call 30; (with_reducible refine (WT.out _).mono ?_); rintro e w1 ⟨rfl, hb1⟩)
        have hA3 := hA2.below hb1 hA2.lt
        have hS3 := hS2.below hb1 hS2.lt
        have hF3 := hF0.below hb1 hF0.lt
        have hb3 := hb2.trans (hb1.mono hb2.size)
        clear y1 y2 hF0 hF hA2 hS2 hb2 hb1
        have y1 : w1.cell? ⟨b8, 0, none⟩ = some (.int .i64 n) := hF3.cellAt rfl
        have y2 : w1.cell? ⟨b8, 1, none⟩ = some (.int .i64 d) := hF3.cellAt rfl
        have z1 : w1.cell? ⟨b6, 0, none⟩ = some (.int .i64 N) := hS3.cellAt rfl
        have z2 : w1.cell? ⟨b6, 1, none⟩ = some (.int .i64 D) := hS3.cellAt rfl
        have HS3 := Lib.hid hS3
        clear hS3
        go_wp2_with (first
          | (go_at_call 31; (with_reducible refine (AD.out _).mono ?_); rintro e w2 ⟨rfl, hb4⟩)
          | (refine wp_st rfl 39 (.tmp 4) (.tmp 24) rfl _ [.int .i64 N', .int .i64 D'] rfl rfl (HS3.out.below hb4 HS3.out.lt) Try.infofr rfl rfl (one2 _ _) ?_))
        have hA4 := (hA3.below hb4 hA3.lt).besideRow b6 [.int .i64 N', .int .i64 D'].toArray (by omega)
        have hS4 := (HS3.out.below hb4 HS3.out.lt).setRow [.int .i64 N', .int .i64 D']
        have hb5 := below_setRow (hb3.trans (hb4.mono hb3.size)) b6 (by omega) [.int .i64 N', .int .i64 D'].toArray
        go_roundw
        case rel => exact ⟨j + 1, N', D', by omega, by go_num, HA', HNX, hA4, hS4, hb5⟩
        case measure => simp [intOf]; omega
      | false =>
        rw [show (f.1, f.2) = f from rfl, hw] at WT
        have e2 : sumE l = 2 := by
          unfold sumE
          rw [if_neg h8, if_neg]
          intro h
          rw [List.all_eq_true.1 h f (List.mem_of_getElem? hf)] at hw
          cases hw
        have er : sumR l = (0, 0) := by unfold sumR; rw [if_neg (by rw [e2]; decide)]
        have hR := HRV.out
        rw [er, e2] at hR
        have HR := Lib.hid hR
        clear hall hw e2 er hR hND hS hS2
        go_wp2_with (first
          | (go_at_call 30; (with_reducible refine (WT.out _).mono ?_); rintro e w1 ⟨rfl, hb1⟩)
          | (refine wp_st rfl 39 (.tmp 2) (.tmp 21) rfl _ [.int .i64 0, .int .i64 0] rfl rfl (hA2.below hb1 hA2.lt) Try.infofr rfl rfl (one2 _ _) ?_))
        have hA3 := (hA2.below hb1 hA2.lt).setRow [.int .i64 0, .int .i64 0]
        have hb3 := below_setRow (hb2.trans (hb1.mono hb2.size)) w.heap.size (Nat.le_refl _) #[.int .i64 0, .int .i64 0]
        exact ret_frac hA3 rfl rfl rfl rfl ⟨by rw [HR.out]; rfl, hb3⟩
    · obtain rfl : j = l.length := by omega
      have hW : wts l := ⟨by omega, fun f hf => by
        obtain ⟨i, hi⟩ := List.getElem?_of_mem hf
        exact hall.out i f (by
          rcases Nat.lt_or_ge i l.length with h | h
          · exact h
          · rw [List.getElem?_eq_none h] at hi; cases hi) hi⟩
      have e0 : sumE l = 0 := (sumE_ok l).2 hW
      have er : sumR l = sumF l := by unfold sumR; rw [if_pos e0]
      have hfin := hND.out
      rw [List.take_length] at hfin
      have hR := HRV.out
      rw [er, e0, show sumF l = (N, D) from hfin] at hR
      have HR := Lib.hid hR
      clear hR e0 er hall hW h64 hfin hcells hND
      have z1 : wr.cell? ⟨b6, 0, none⟩ = some (.int .i64 N) := hS.cellAt rfl
      have z2 : wr.cell? ⟨b6, 1, none⟩ = some (.int .i64 D) := hS.cellAt rfl
      go_wp2_with (refine wp_st rfl 39 (.tmp 2) (.tmp 26) rfl _ [.int .i64 N, .int .i64 D] rfl rfl hA Try.infofr rfl rfl (one2 _ _) ?_)
      exact ret_frac (hA.setRow [.int .i64 N, .int .i64 D]) rfl rfl rfl rfl ⟨by rw [HR.out]; rfl, below_setRow hb w.heap.size (Nat.le_refl _) _⟩
set_option maxRecDepth 100000 in
theorem treach_any (B : Nat) (v : Value) (l : List FR) (w : World) (hv : FrsAt B w v l) (hB : B ≤ w.heap.size) : Calls Try.prog 25 #[v] w fun e w' => e = .returned (.bool (oneB l)) ∧ Below w.heap.size w w' := by
  have S := Lib.hid (tsum_any B v l w hv hB)
  by_cases h0 : sumE l = 0
  · have er : sumR l = sumF l := by unfold sumR; rw [if_pos h0]
    have eo : oneB l = decide ((sumF l).2 ≤ (sumF l).1) := by
      unfold oneB
      rw [h0]
      exact Bool.true_and _
    rw [er, h0] at S
    rw [eo]
    generalize (sumF l).1 = N at S ⊢
    generalize (sumF l).2 = D at S ⊢
    clear hv h0 er eo
    go_enter Try.func25, Try.ntmps25
    go_wp2_with (go_at_call 19; (with_reducible refine S.out.mono ?_); rintro e w1 ⟨rfl, hb1⟩)
    go_ret
    exact ⟨rfl, hb1.alloc hb1.size _⟩
  · have eo : oneB l = false := by
      unfold oneB
      rw [show (sumE l == 0) = false by simp [h0]]
      rfl
    rw [eo]
    have hn : (sumE l == 0) = false := by simp [h0]
    generalize sumE l = x at S hn
    generalize (sumR l).1 = N at S
    generalize (sumR l).2 = D at S
    clear hv h0 eo
    go_enter Try.func25, Try.ntmps25
    go_wp2_with (go_at_call 19; (with_reducible refine S.out.mono ?_); rintro e w1 ⟨rfl, hb1⟩)
    go_ret
    exact ⟨rfl, hb1.alloc hb1.size _⟩
set_option maxHeartbeats 800000 in
set_option maxRecDepth 100000 in
theorem tcount_any (B : Nat) (num : Int) (v : Value) (ws : List (List FR)) (w : World) (hv : FrssAt B w v ws) (hB : B ≤ w.heap.size) (hws : ws.length ≤ 1000000) (hM : lenL ws ≤ 1000000) : Calls Try.prog 26 #[.agg #[.int .i64 num, v]] w fun e w' => e = .returned (.int .i64 (lenL ws : Nat)) ∧ Below w.heap.size w w' := by
  obtain ⟨ao, cap, rfl, hcl, hcm, hcells⟩ := hv
  obtain ⟨R, hR⟩ : ∃ R : Nat, R = lenL ws := ⟨_, rfl⟩
  rw [← hR]
  have HR := Lib.hid hR
  have HC := Lib.hid hcells
  have b0 := (Below.refl w.heap.size w).alloc (o := .cells #[.int .i64 num, .slice ao ws.length cap] 25) (Nat.le_refl _)
  clear hR hcells
  go_enter Try.func26, Try.ntmps26
  go_wp2
  go_loopw [3, 9] (fun n i wr => ∃ j : Nat, j ≤ ws.length ∧ i = .int .i64 j ∧ n = .int .i64 (lenL (ws.take j) : Nat) ∧ Below w.heap.size w wr) (fun _ i _ => ws.length - (intOf i).toNat)
  case atStart => exact ⟨0, Nat.zero_le _, rfl, rfl, b0⟩
  case round =>
    clear b0
    obtain ⟨j, hj, rfl, rfl, hb⟩ := hrel
    have hbs := hb.size
    by_cases hlt : j < ws.length
    · obtain ⟨l, hl⟩ : ∃ l, ws[j]? = some l := ⟨_, List.getElem?_eq_getElem hlt⟩
      obtain ⟨g, off, u, rfl, hg, c1, hF⟩ := HC.out j l hl
      have d1 := (hb.cell (p := ⟨g, _, none⟩) (by show g < w.heap.size; omega)).trans c1
      obtain ⟨ao', cap', rfl, hcl', hcm', -, -⟩ := hF
      have hsn : lenL (ws.take (j + 1)) = lenL (ws.take j) + l.length := by rw [List.take_add_one, hl]; exact lenL_snoc _ _
      have hbnd := lenL_take ws (j + 1)
      clear c1 hl
      obtain ⟨n0, hn0⟩ : ∃ n0, n0 = lenL (ws.take j) := ⟨_, rfl⟩
      rw [← hn0] at hsn ⊢
      have hsn' : (n0 : Int) + (l.length : Int) = ((lenL (ws.take (j + 1)) : Nat) : Int) := by omega
      have hnb : (n0 : Int) ≤ 1000000 := by omega
      have hnl : (l.length : Int) ≤ 1000000 := by omega
      have HSN := Lib.hid hsn'
      clear hsn hn0 hbnd hsn'
      go_wp2
      exact ⟨⟨j + 1, by omega, by go_num, by rw [← HSN.out], hb⟩, by simp [intOf]; omega⟩
    · obtain rfl : j = ws.length := by omega
      rw [List.take_length, ← HR.out]
      clear HC HR
      go_wp2
      go_ret
      exact ⟨rfl, hb⟩
end Go.Proofs.Ytefhhfpdponabaa
