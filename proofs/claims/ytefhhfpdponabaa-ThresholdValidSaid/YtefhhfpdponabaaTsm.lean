/- The document's sum of weights. -/
import Derived.Test.YtefhhfpdponabaaTfr
namespace Go.Proofs.Ytefhhfpdponabaa
open Go.ChangeShapes Go.WideShapes Go.ChangeAt Go.RowKit
set_option linter.unusedVariables false
set_option linter.unusedSimpArgs false

/-- A slice of fractions, below the block B. -/
def FrsAt (B : Nat) (w : World) (v : Value) (l : List FR) : Prop :=
  ∃ (ao : Option Addr) (cap : Nat), v = .slice ao l.length cap ∧ l.length ≤ cap ∧ cap ≤ maxLen ∧ (∀ f ∈ l, in64 f.1 ∧ in64 f.2) ∧
    ∀ i f, l[i]? = some f → ∃ g off, ao = some ⟨g, off, none⟩ ∧ g < B ∧ w.cell? ⟨g, off + i * 2, none⟩ = some (.int .i64 f.1) ∧ w.cell? ⟨g, off + i * 2 + 1, none⟩ = some (.int .i64 f.2)
theorem FrsAt.below {B C : Nat} {w w' : World} {v : Value} {l : List FR} (h : FrsAt B w v l) (hb : Below C w w') (hC : B ≤ C) : FrsAt B w' v l := by
  obtain ⟨ao, cap, h1, h2, h3, h4, h5⟩ := h
  refine ⟨ao, cap, h1, h2, h3, h4, fun i f e => ?_⟩
  obtain ⟨g, off, a1, a2, a3, a4⟩ := h5 i f e
  exact ⟨g, off, a1, a2, (hb.cell (p := ⟨g, _, none⟩) (by show g < C; omega)).trans a3, (hb.cell (p := ⟨g, _, none⟩) (by show g < C; omega)).trans a4⟩
theorem ret_frac {f : Func} {Q : Ending → World → Prop} {a : Act} {w : World} {g c s : Nat} {x0 x1 v : Value} (h : Arr w g 39 [x0, x1]) (hres : f.results = #[.cell c 39, .tmp s]) (hc : a.tmps.getD c undef = .pointer (some ⟨g, 0, none⟩)) (hs : a.tmps.getD s undef = v) (hd : a.defers = [])
    (hQ : Q (.returned (.tuple #[.agg #[x0, x1], v])) w) : bodyPost Try.prog f Q .ret a w := by
  refine bodyPost_ret (v := .tuple #[.agg #[x0, x1], v]) ?_ hd hQ
  have q0 : w.cell? ⟨g, 0, none⟩ = some x0 := h.cellAt rfl
  have q1 : w.cell? ⟨g, 1, none⟩ = some x1 := h.cellAt rfl
  obtain ⟨tm, df⟩ := a
  simp only [Array.getD_eq_getD_getElem?] at hc hs
  simp [results, hres, go_sem, hc, hs, q0, q1]
theorem Try.infofr : (Try.prog.info? 39).map (·.size) = some 2 := by kernel_rfl
theorem step_parts {N D n d : Nat} {f : FR} (h1 : f.1 = (n : Int)) (h2 : f.2 = (d : Int)) : stepF (N, D) f = ((N * d + n * D) / Nat.gcd (N * d + n * D) (D * d), (D * d) / Nat.gcd (N * d + n * D) (D * d)) := by
  unfold stepF addN nrm
  rw [h1, h2, Int.toNat_natCast, Int.toNat_natCast]
theorem one2 (a b : Int) : ∀ v ∈ [Value.int .i64 a, .int .i64 b], v.oneCell' = true := by
  intro v hv
  simp only [List.mem_cons, List.not_mem_nil, or_false] at hv
  rcases hv with rfl | rfl <;> rfl
/-- What Sum returns. -/
def sumR (l : List FR) : Nat × Nat := if sumE l = 0 then sumF l else (0, 0)
set_option maxHeartbeats 1600000 in
set_option maxRecDepth 100000 in
theorem rsum13_any (B : Nat) (v : Value) (l : List FR) (w : World) (hv : FrsAt B w v l) (hB : B ≤ w.heap.size) : Calls Try.prog 20 #[v] w fun e w' => e = .returned (.tuple #[.agg #[.int .i64 ((sumR l).1 : Nat), .int .i64 ((sumR l).2 : Nat)], .int .i64 (sumE l)]) ∧ Below w.heap.size w w' := by
  obtain ⟨ao, cap, rfl, hcl, hcm, h64, hcells⟩ := hv
  obtain ⟨RV, hRV⟩ : ∃ RV : Value, RV = .tuple #[.agg #[.int .i64 ((sumR l).1 : Nat), .int .i64 ((sumR l).2 : Nat)], .int .i64 (sumE l)] := ⟨_, rfl⟩
  rw [← hRV]
  have HRV := Lib.hid hRV
  clear hRV
  have a0 := Arr.new w [.int .i64 0, .int .i64 0] 39
  have b0 := (Below.refl w.heap.size w).alloc (o := .cells #[.int .i64 0, .int .i64 0] 39) (Nat.le_refl _)
  by_cases h8 : 8 < l.length
  · have h8i : (8 : Int) < (l.length : Int) := by omega
    have e3 : sumE l = 3 := by unfold sumE; rw [if_pos h8]
    have er : sumR l = (0, 0) := by unfold sumR; rw [if_neg (by rw [e3]; decide)]
    have hR := HRV.out
    rw [er, e3] at hR
    subst hR
    clear HRV e3 er
    go_enter Try.func20, Try.ntmps20
    go_wp2
    exact ret_frac a0 rfl rfl rfl rfl ⟨rfl, b0⟩
  have h8i : ¬ ((8 : Int) < (l.length : Int)) := by omega
  go_enter Try.func20, Try.ntmps20
  go_wp2
  go_loopw [16] (fun i wr => ∃ j : Nat, j ≤ l.length ∧ i = .int .i64 j ∧ (∀ k f, k < j → l[k]? = some f → wtB f = true) ∧ Arr wr w.heap.size 39 [.int .i64 0, .int .i64 0] ∧ Below w.heap.size w wr) (fun i _ => l.length - (intOf i).toNat)
  case atStart => exact ⟨0, Nat.zero_le _, rfl, fun k f h => absurd h (by omega), a0, b0⟩
  case round =>
    obtain ⟨j, hj, rfl, hall, hA, hb⟩ := hrel
    have hbs := hb.size
    by_cases hlt : j < l.length
    · obtain ⟨f, hf⟩ : ∃ f, l[j]? = some f := ⟨_, List.getElem?_eq_getElem hlt⟩
      obtain ⟨g, off, rfl, hg, c1, c2⟩ := hcells j f hf
      have d1 := (hb.cell (p := ⟨g, _, none⟩) (by show g < w.heap.size; omega)).trans c1
      have d2 := (hb.cell (p := ⟨g, _, none⟩) (by show g < w.heap.size; omega)).trans c2
      have WT := Lib.hid (fun wx => rweight_any f.1 f.2 wx (h64 f (List.mem_of_getElem? hf)).1 (h64 f (List.mem_of_getElem? hf)).2)
      have HC := Lib.hid hcells
      have hA2 := hA.alloc (.cells #[.int .i64 f.1, .int .i64 f.2] 39)
      have hb2 := hb.alloc (o := .cells #[.int .i64 f.1, .int .i64 f.2] 39) hbs
      clear c1 c2 hcells
      cases hw : wtB f with
      | true =>
        rw [show (f.1, f.2) = f from rfl, hw] at WT
        have hall' : ∀ k g, k < j + 1 → l[k]? = some g → wtB g = true := fun k g hk hg => by
          by_cases e : k = j
          · subst e; rw [hf] at hg; cases hg; exact hw
          · exact hall k g (by omega) hg
        have HA' := Lib.hid hall'
        clear hall hall' hw
        go_wp2_with (go_at_call 32; (with_reducible refine (WT.out _).mono ?_); rintro e w1 ⟨rfl, hb1⟩)
        go_roundw
        case rel => exact ⟨j + 1, by omega, by go_num, HA'.out, hA2.below hb1 hA2.lt, hb2.trans (hb1.mono hb2.size)⟩
        case measure => simp [intOf]; omega
      | false =>
        rw [show (f.1, f.2) = f from rfl, hw] at WT
        have e2 : sumE l = 2 := by
          unfold sumE
          rw [if_neg h8, if_neg]
          intro h
          rw [List.all_eq_true.1 h f (List.mem_of_getElem? hf)] at hw
          cases hw
        have er : sumR l = (0, 0) := by unfold sumR; rw [if_neg (by rw [e2]; decide)]
        have hR := HRV.out
        rw [er, e2] at hR
        have HR := Lib.hid hR
        clear hall hw e2 er hR
        go_wp2_with (first
          | (go_at_call 32; (with_reducible refine (WT.out _).mono ?_); rintro e w1 ⟨rfl, hb1⟩)
          | (refine wp_st rfl 39 (.tmp 2) (.tmp 23) rfl _ [.int .i64 0, .int .i64 0] rfl rfl (hA2.below hb1 hA2.lt) Try.infofr rfl rfl (one2 _ _) ?_))
        have hA3 := (hA2.below hb1 hA2.lt).setRow [.int .i64 0, .int .i64 0]
        have hb3 := below_setRow (hb2.trans (hb1.mono hb2.size)) w.heap.size (Nat.le_refl _) #[.int .i64 0, .int .i64 0]
        exact ret_frac hA3 rfl rfl rfl rfl ⟨by rw [HR.out]; rfl, hb3⟩
    · obtain rfl : j = l.length := by omega
      have hW : wts l := ⟨by omega, fun f hf => by
        obtain ⟨i, hi⟩ := List.getElem?_of_mem hf
        exact hall i f (by
          rcases Nat.lt_or_ge i l.length with h | h
          · exact h
          · rw [List.getElem?_eq_none h] at hi; cases hi) hi⟩
      have e0 : sumE l = 0 := (sumE_ok l).2 hW
      have er : sumR l = sumF l := by unfold sumR; rw [if_pos e0]
      have hR := HRV.out
      rw [er, e0] at hR
      have HR := Lib.hid hR
      have HW := Lib.hid hW
      clear HRV hR e0 er hall hW h64
      go_upto_region 11 with fail
      have hb0 := hb.alloc (o := .cells #[.int .i64 0, .int .i64 1] 39) hbs
      have hA0 := hA.alloc (.cells #[.int .i64 0, .int .i64 1] 39)
      have hS0 := Arr.new wr [.int .i64 0, .int .i64 1] 39
      obtain ⟨b6, hb6⟩ : ∃ b6, b6 = wr.heap.size := ⟨_, rfl⟩
      have hlt6 : w.heap.size < b6 := by rw [hb6]; exact hA.lt
      rw [← hb6] at hS0 ⊢
      clear hA hb hbs b0 a0 hb6
      obtain ⟨il, hil⟩ : ∃ il : Value, il = .int .i64 (l.length : Int) := ⟨_, rfl⟩
      go_loopw [28] (fun i wx => ∃ j N D : Nat, j ≤ l.length ∧ i = .int .i64 j ∧ Hid ((l.take j).foldl stepF (0, 1) = (N, D)) ∧ Arr wx w.heap.size 39 [.int .i64 0, .int .i64 0] ∧ Arr wx b6 39 [.int .i64 N, .int .i64 D] ∧ Below w.heap.size w wx) (fun i _ => l.length - (intOf i).toNat)
      case atStart => exact ⟨0, 0, 1, Nat.zero_le _, rfl, Lib.hid rfl, hA0, hS0, hb0⟩
      case round =>
        clear hA0 hS0 hb0
        obtain ⟨j, N, D, hj, rfl, hND, hA, hS, hb⟩ := hrel
        have hbs := hb.size
        by_cases hlt : j < l.length
        · obtain ⟨f, hf⟩ : ∃ f, l[j]? = some f := ⟨_, List.getElem?_eq_getElem hlt⟩
          obtain ⟨g, off, rfl, hg, c1, c2⟩ := hcells j f hf
          have d1 := (hb.cell (p := ⟨g, _, none⟩) (by show g < w.heap.size; omega)).trans c1
          have d2 := (hb.cell (p := ⟨g, _, none⟩) (by show g < w.heap.size; omega)).trans c2
          have hwf := HW.out.2 f (List.mem_of_getElem? hf)
          have hw5 := (wtB_iff f).1 hwf
          obtain ⟨n, hn⟩ : ∃ n : Nat, f.1 = (n : Int) := ⟨f.1.toNat, by omega⟩
          obtain ⟨d, hd⟩ : ∃ d : Nat, f.2 = (d : Int) := ⟨f.2.toNat, by omega⟩
          have hl8 := HW.out.1
          have hbd := sumF_bound (l.take j) (0, 1) 0 (by decide) (by decide) (by decide) (fun g hg => HW.out.2 g (List.mem_of_mem_take hg))
          rw [hND.out] at hbd
          have hlen : (l.take j).length = j := by rw [List.length_take]; omega
          rw [hlen] at hbd
          simp only [Nat.zero_add] at hbd
          obtain ⟨D0, D1, N1⟩ := hbd
          have hp : (100 : Nat) ^ j ≤ 100 ^ 7 := Nat.pow_le_pow_right (by decide) (by omega)
          have hD : D ≤ 100000000000000 := Nat.le_trans D1 hp
          have hN : N ≤ 7 * D := Nat.le_trans N1 (Nat.mul_le_mul_right _ (by omega))
          have hd1 : 1 ≤ d ∧ d ≤ 100 ∧ n ≤ d := by omega
          have hnext : (l.take (j + 1)).foldl stepF (0, 1) = stepF (N, D) f := by
            rw [List.take_add_one, hf, List.foldl_append, hND.out]; rfl
          rw [step_parts hn hd] at hnext
          have B1 : N * d ≤ 700000000000000 * 100 := Nat.mul_le_mul (by omega) hd1.2.1
          have B2 : n * D ≤ 100 * 100000000000000 := Nat.mul_le_mul (by omega) hD
          have B3 : D * d ≤ 100000000000000 * 100 := Nat.mul_le_mul hD hd1.2.1
          have B4 : 0 < D * d := Nat.mul_pos D0 (by omega)
          have m1 : (N : Int) * (d : Int) = ((N * d : Nat) : Int) := by rw [Int.natCast_mul]
          have m2 : (n : Int) * (D : Int) = ((n * D : Nat) : Int) := by rw [Int.natCast_mul]
          have m4 : (D : Int) * (d : Int) = ((D * d : Nat) : Int) := by rw [Int.natCast_mul]
          obtain ⟨x1, hx1⟩ : ∃ x, x = N * d := ⟨_, rfl⟩
          obtain ⟨x2, hx2⟩ : ∃ x, x = n * D := ⟨_, rfl⟩
          obtain ⟨y, hy⟩ : ∃ x, x = D * d := ⟨_, rfl⟩
          rw [← hx1] at m1 B1 hnext
          rw [← hx2] at m2 B2 hnext
          rw [← hy] at m4 B3 B4 hnext
          obtain ⟨x3, hx3⟩ : ∃ x, x = x1 + x2 := ⟨_, rfl⟩
          have m3 : (x1 : Int) + (x2 : Int) = (x3 : Int) := by omega
          rw [← hx3] at hnext
          have GC := Lib.hid (fun wx => rgcd_any x3 y wx (by omega) (by omega))
          have g0 : 0 < Nat.gcd x3 y := gcd_pos_right B4
          obtain ⟨k, hk⟩ : ∃ k, k = Nat.gcd x3 y := ⟨_, rfl⟩
          rw [← hk] at GC g0 hnext
          have q1 : Int.tdiv (x3 : Int) (k : Int) = ((x3 / k : Nat) : Int) := by rw [Int.tdiv_eq_ediv_of_nonneg (by omega)]; rfl
          have q2 : Int.tdiv (y : Int) (k : Int) = ((y / k : Nat) : Int) := by rw [Int.tdiv_eq_ediv_of_nonneg (by omega)]; rfl
          have e1 := Nat.div_le_self x3 k
          have e2 := Nat.div_le_self y k
          obtain ⟨N', hN'⟩ : ∃ N', N' = x3 / k := ⟨_, rfl⟩
          obtain ⟨D', hD'⟩ : ∃ D', D' = y / k := ⟨_, rfl⟩
          rw [← hN'] at q1 hnext e1
          rw [← hD'] at q2 hnext e2
          have k0 : ¬ ((k : Int) = 0) := by omega
          have x3b : (x3 : Int) ≤ 100000000000000000 := by omega
          have HNX := Lib.hid hnext
          have KN : Hid (¬ k = 0) := Lib.hid (by omega)
          have WN : Hid (IntKind.i64.wrap (N' : Int) = (N' : Int)) := Lib.hid (by rw [IntKind.wrap_i64]; omega)
          have WD : Hid (IntKind.i64.wrap (D' : Int) = (D' : Int)) := Lib.hid (by rw [IntKind.wrap_i64]; omega)
          rw [hn] at d1
          rw [hd] at d2
          have hA2 := hA.alloc (.cells #[.int .i64 n, .int .i64 d] 39)
          have hS2 := hS.alloc (.cells #[.int .i64 n, .int .i64 d] 39)
          have hb2 := hb.alloc (o := .cells #[.int .i64 n, .int .i64 d] 39) hbs
          clear hcells c1 c2 hwf hw5 hn hd hND hnext hx1 hx2 hx3 hy hk hN' hD' hf D1 N1 hp hN hlen e1 e2
          go_upto_region 13 with fail
          have hF := Arr.new wr [.int .i64 n, .int .i64 d] 39
          have hne : b6 ≠ wr.heap.size := by have := hS.lt; omega
          generalize wr.alloc (.cells #[.int .i64 n, .int .i64 d] 39) = wq at hA2 hS2 hb2 hF ⊢
          generalize wr.heap.size = b8 at hF hne ⊢
          have z1 : wq.cell? ⟨b6, 0, none⟩ = some (.int .i64 N) := hS2.cellAt rfl
          have z2 : wq.cell? ⟨b6, 1, none⟩ = some (.int .i64 D) := hS2.cellAt rfl
          have y1 : wq.cell? ⟨b8, 0, none⟩ = some (.int .i64 n) := hF.cellAt rfl
          have y2 : wq.cell? ⟨b8, 1, none⟩ = some (.int .i64 d) := hF.cellAt rfl
          clear hA hS hb hF d1 d2
          have hA3 : Arr (wq.setRow b6 #[.int .i64 x3, .int .i64 y]) w.heap.size 39 [.int .i64 0, .int .i64 0] := hA2.besideRow b6 #[.int .i64 x3, .int .i64 y] (by omega)
          have hS3 : Arr (wq.setRow b6 #[.int .i64 x3, .int .i64 y]) b6 39 [.int .i64 x3, .int .i64 y] := hS2.setRow [.int .i64 x3, .int .i64 y]
          have hb3 : Below w.heap.size w (wq.setRow b6 #[.int .i64 x3, .int .i64 y]) := below_setRow hb2 b6 (by omega) #[.int .i64 x3, .int .i64 y]
          have w1 : (wq.setRow b6 #[.int .i64 x3, .int .i64 y]).cell? ⟨b6, 0, none⟩ = some (.int .i64 x3) := hS3.cellAt rfl
          have w2 : (wq.setRow b6 #[.int .i64 x3, .int .i64 y]).cell? ⟨b6, 1, none⟩ = some (.int .i64 y) := hS3.cellAt rfl
          have HA3 := Lib.hid hA3
          have HS3 := Lib.hid hS3
          have HS2 := Lib.hid hS2
          clear hA3 hS3 hA2 hb2 hS2
          go_wp2_with (first
            | (go_at_call 33; (with_reducible refine (GC.out _).mono ?_); rintro e w4 ⟨rfl, hb4⟩)
            | (refine wp_st rfl 39 (.tmp 6) (.tmp 48) rfl _ [.int .i64 x3, .int .i64 y] rfl rfl HS2.out Try.infofr rfl rfl (one2 _ _) ?_))
          have hA4 := HA3.out.below hb4 HA3.out.lt
          have hS4 := HS3.out.below hb4 HS3.out.lt
          have b4 := hb3.trans (hb4.mono hb3.size)
          have v1 : w4.cell? ⟨b6, 0, none⟩ = some (.int .i64 x3) := hS4.cellAt rfl
          have v2 : w4.cell? ⟨b6, 1, none⟩ = some (.int .i64 y) := hS4.cellAt rfl
          refine wp_region_plan (fun w' => w'.cell? ⟨b6, 0, none⟩ = some (.int .i64 x3) ∧ w'.cell? ⟨b6, 1, none⟩ = some (.int .i64 y)) [1, 5] (.take 0 (.take 1 (.take 2 (.take 3 (.take 4 (.take 5 (.take 6 (.take 7 (.ask 8 false (.ask 9 false .stop .stop) .stop))))))))) (by kernel_rfl) (by kernel_rfl) (fun _ d _ _ _ h => by cases d <;> exact h) ⟨v1, v2⟩ ?_
          have hA5 := hA4.drew
          have hS5 := hS4.drew
          have b5 := b4.drew
          clear w1 w2 v1 v2 hA4 hS4 b4 hb4 hb3
          generalize w4.drew = wd at hA5 hS5 b5 ⊢
          refine take_any _ ?_ rfl rfl ?_ (fun K hK => ?_); rotate_left; (intro w0; go_simp; (try rfl)); (go_simp; refine hK _ ?_; clear hK K)
          refine take_held _ ?_ rfl rfl (by decide) ?_ (fun K hK => ?_); rotate_left; (intro w0 hw0; go_simp; (try rfl)); (go_simp; refine hK _ ?_; clear hK K)
          refine take_any _ ?_ rfl rfl ?_ (fun K hK => ?_); rotate_left; (intro w0; go_simp; (try rfl)); (go_simp; refine hK _ ?_; clear hK K)
          refine take_any _ ?_ rfl rfl ?_ (fun K hK => ?_); rotate_left; (intro w0; go_simp; rw [if_neg KN.out, WN.out]); (go_simp; refine hK _ ?_; clear hK K)
          refine take_any _ ?_ rfl rfl ?_ (fun K hK => ?_); rotate_left; (intro w0; go_simp; (try rfl)); (go_simp; refine hK _ ?_; clear hK K)
          refine take_held _ ?_ rfl rfl (by decide) ?_ (fun K hK => ?_); rotate_left; (intro w0 hw0; go_simp; (try rfl)); (go_simp; refine hK _ ?_; clear hK K)
          refine take_any _ ?_ rfl rfl ?_ (fun K hK => ?_); rotate_left; (intro w0; go_simp; (try rfl)); (go_simp; refine hK _ ?_; clear hK K)
          refine take_any _ ?_ rfl rfl ?_ (fun K hK => ?_); rotate_left; (intro w0; go_simp; rw [if_neg KN.out, WD.out]); (go_simp; refine hK _ ?_; clear hK K)
          refine ask_late _ rfl trivial ?_; go_wp2_with fail; refine Seg.mk ?_
          refine ask_last _ rfl trivial ?_
          go_wp2_with (refine wp_st rfl 39 (.tmp 6) (.tmp 62) rfl _ [.int .i64 N', .int .i64 D'] rfl rfl hS5 Try.infofr rfl rfl (one2 _ _) ?_)
          have hA6 := hA5.besideRow b6 [.int .i64 N', .int .i64 D'].toArray (by omega)
          have hS6 := hS5.setRow [.int .i64 N', .int .i64 D']
          have hb6 := below_setRow b5 b6 (by omega) [.int .i64 N', .int .i64 D'].toArray
          go_roundw
          case rel => exact ⟨j + 1, N', D', by omega, by go_num, HNX, hA6, hS6, hb6⟩
          case measure => simp [intOf]; omega
        · obtain rfl : j = l.length := by omega
          have hfin := hND.out
          rw [List.take_length] at hfin
          have hR : RV = .tuple #[.agg #[.int .i64 (N : Int), .int .i64 (D : Int)], .int .i64 0] := by
            rw [HR.out, show sumF l = (N, D) from hfin]
          have HR2 := Lib.hid hR
          clear hR hfin hcells
          have z1 : wr.cell? ⟨b6, 0, none⟩ = some (.int .i64 N) := hS.cellAt rfl
          have z2 : wr.cell? ⟨b6, 1, none⟩ = some (.int .i64 D) := hS.cellAt rfl
          go_wp2_with (refine wp_st rfl 39 (.tmp 2) (.tmp 64) rfl _ [.int .i64 N, .int .i64 D] rfl rfl hA Try.infofr rfl rfl (one2 _ _) ?_)
          exact ret_frac (hA.setRow [.int .i64 N, .int .i64 D]) rfl rfl rfl rfl ⟨by rw [HR2.out]; rfl, below_setRow hb w.heap.size (Nat.le_refl _) _⟩
end Go.Proofs.Ytefhhfpdponabaa
