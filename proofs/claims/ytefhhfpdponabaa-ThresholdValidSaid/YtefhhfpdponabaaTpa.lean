/- The program's divisor, isWeight, add, Sum, reachesOne, countWeights. -/
import Derived.Test.YtefhhfpdponabaaTkt
import Derived.Test.YtefhhfpdponabaaTgd
namespace Go.Proofs.Ytefhhfpdponabaa
open Go.ChangeShapes Go.WideShapes Go.ChangeAt Go.RowKit
set_option linter.unusedVariables false
set_option linter.unusedSimpArgs false

set_option maxRecDepth 100000 in
theorem tgcd_any (a b : Nat) (w : World) (ha : a < 9223372036854775808) (hb : b < 9223372036854775808) : Calls Try.prog 40 #[.int .i64 a, .int .i64 b] w fun e w' => e = .returned (.int .i64 (Nat.gcd a b : Nat)) ∧ Below w.heap.size w w' := by
  obtain ⟨g, hg⟩ : ∃ g, g = Nat.gcd a b := ⟨_, rfl⟩
  rw [← hg]
  go_enter Try.func40, Try.ntmps40
  go_wp2
  go_loopw [0, 1] (fun x y wr => ∃ a b : Nat, a < 9223372036854775808 ∧ b < 9223372036854775808 ∧ x = .int .i64 a ∧ y = .int .i64 b ∧ Hid (g = Nat.gcd a b) ∧ Below w.heap.size w wr) (fun _ y _ => (intOf y).toNat)
  case atStart => exact ⟨a, b, ha, hb, rfl, rfl, Lib.hid hg, Below.refl _ _⟩
  case round =>
    clear ha hb hg
    obtain ⟨a, b, ha, hb, rfl, rfl, hg, hB⟩ := hrel
    by_cases h0 : b = 0
    · subst h0
      have e : g = a := by rw [hg.out, Nat.gcd_zero_right]
      subst e
      go_wp2
      go_ret
      exact ⟨rfl, hB⟩
    · have h0i : ¬ ((b : Int) = 0) := by omega
      have hb0 : ((b : Int) != 0) = true := by simp; omega
      have hm : Int.tmod (a : Int) (b : Int) = ((a % b : Nat) : Int) := by rw [Int.tmod_eq_emod_of_nonneg (by omega)]; rfl
      have hlt : a % b < b := Nat.mod_lt _ (by omega)
      have hg' : Hid (g = Nat.gcd b (a % b)) := Lib.hid (hg.out.trans ((Nat.gcd_comm a b).trans ((Nat.gcd_rec b a).trans (Nat.gcd_comm _ _))))
      obtain ⟨c, hc⟩ : ∃ c, c = a % b := ⟨_, rfl⟩
      rw [← hc] at hm hlt hg'
      clear hc hg
      go_upto_region 2 with fail
      go_quiet (fail)
      go_wp2
      exact ⟨⟨b, c, hb, by omega, rfl, rfl, hg', belowN hB _⟩, by simp only [intOf]; omega⟩
set_option maxRecDepth 100000 in
theorem tweight_any (n d : Int) (w : World) (hn : in64 n) (hd : in64 d) : Calls Try.prog 30 #[.agg #[.int .i64 n, .int .i64 d]] w fun e w' => e = .returned (.bool (wtB (n, d))) ∧ Below w.heap.size w w' := by
  have hno : (¬ (1 ≤ d ∧ d ≤ 100 ∧ 0 ≤ n ∧ n ≤ d)) → wtB (n, d) = false := fun h => by
    cases e : wtB (n, d) with
    | false => rfl
    | true => have := (wtB_iff _).1 e; exact absurd ⟨this.1, this.2.1, this.2.2.1, this.2.2.2.1⟩ h
  unfold in64 at hn hd
  have b0 := (Below.refl w.heap.size w).alloc (o := .cells #[.int .i64 n, .int .i64 d] 39) (Nat.le_refl _)
  have c0 := two_new w (.int .i64 n) (.int .i64 d) 39
  obtain ⟨c1, c2⟩ := c0
  by_cases h1 : 1 ≤ d
  rotate_left
  · rw [hno (fun h => h1 h.1)]
    go_enter Try.func30, Try.ntmps30
    go_wp2
    go_ret
    exact ⟨rfl, b0⟩
  by_cases h2 : d ≤ 100
  rotate_left
  · rw [hno (fun h => h2 h.2.1)]
    go_enter Try.func30, Try.ntmps30
    go_wp2
    go_ret
    exact ⟨rfl, b0⟩
  by_cases h3 : 0 ≤ n
  rotate_left
  · rw [hno (fun h => h3 h.2.2.1)]
    go_enter Try.func30, Try.ntmps30
    go_wp2
    go_ret
    exact ⟨rfl, b0⟩
  by_cases h4 : n ≤ d
  rotate_left
  · rw [hno (fun h => h4 h.2.2.2)]
    go_enter Try.func30, Try.ntmps30
    go_wp2
    go_ret
    exact ⟨rfl, b0⟩
  obtain ⟨a, ha⟩ : ∃ a : Nat, n = (a : Int) := ⟨n.toNat, by omega⟩
  obtain ⟨b, hb⟩ : ∃ b : Nat, d = (b : Int) := ⟨d.toNat, by omega⟩
  have hw : wtB (n, d) = ((Nat.gcd a b : Int) == 1) := by
    rw [Bool.eq_iff_iff, wtB_iff, beq_iff_eq]
    show _ ∧ _ ∧ _ ∧ _ ∧ Nat.gcd n.toNat d.toNat = 1 ↔ _
    rw [ha, hb, Int.toNat_natCast, Int.toNat_natCast]
    constructor
    · intro h; have := h.2.2.2.2; omega
    · intro h; exact ⟨by omega, by omega, by omega, by omega, by omega⟩
  rw [hw]
  subst ha hb
  have G := Lib.hid (fun wx => tgcd_any a b wx (by omega) (by omega))
  generalize Nat.gcd a b = g at G ⊢
  clear hw hno hn hd
  go_enter Try.func30, Try.ntmps30
  go_wp2_with (go_at_call 40; (with_reducible refine (G.out _).mono ?_); rintro e w1 ⟨rfl, hb1⟩)
  go_ret
  exact ⟨rfl, b0.trans (hb1.mono b0.size)⟩
theorem ret_fr1 {f : Func} {Q : Ending → World → Prop} {a : Act} {w : World} {g c : Nat} {x0 x1 : Value} (h : Arr w g 39 [x0, x1]) (hres : f.results = #[.cell c 39]) (hc : a.tmps.getD c undef = .pointer (some ⟨g, 0, none⟩)) (hd : a.defers = [])
    (hQ : Q (.returned (.agg #[x0, x1])) w) : bodyPost Try.prog f Q .ret a w := by
  refine bodyPost_ret (v := .agg #[x0, x1]) ?_ hd hQ
  have q0 : w.cell? ⟨g, 0, none⟩ = some x0 := h.cellAt rfl
  have q1 : w.cell? ⟨g, 1, none⟩ = some x1 := h.cellAt rfl
  obtain ⟨tm, df⟩ := a
  simp only [Array.getD_eq_getD_getElem?] at hc
  simp [results, hres, go_sem, hc, q0, q1]
/-- What add needs of the numbers, and gives. -/
structure AddOk (N D n d N' D' : Nat) : Prop where
  b1 : N * d ≤ 70000000000000000
  b2 : n * D ≤ 70000000000000000
  b3 : D * d ≤ 70000000000000000
  b4 : 0 < D * d
  eq : stepF (N, D) (((n : Nat) : Int), ((d : Nat) : Int)) = (N', D')
set_option maxHeartbeats 800000 in
set_option maxRecDepth 100000 in
theorem tadd_any (N D n d N' D' : Nat) (w : World) (h : AddOk N D n d N' D') : Calls Try.prog 31 #[.agg #[.int .i64 N, .int .i64 D], .agg #[.int .i64 n, .int .i64 d]] w fun e w' => e = .returned (.agg #[.int .i64 N', .int .i64 D']) ∧ Below w.heap.size w w' := by
  obtain ⟨B1, B2, B3, B4, hnext⟩ := h
  rw [step_parts rfl rfl] at hnext
  have m1 : (N : Int) * (d : Int) = ((N * d : Nat) : Int) := by rw [Int.natCast_mul]
  have m2 : (n : Int) * (D : Int) = ((n * D : Nat) : Int) := by rw [Int.natCast_mul]
  have m4 : (D : Int) * (d : Int) = ((D * d : Nat) : Int) := by rw [Int.natCast_mul]
  obtain ⟨x1, hx1⟩ : ∃ x, x = N * d := ⟨_, rfl⟩
  obtain ⟨x2, hx2⟩ : ∃ x, x = n * D := ⟨_, rfl⟩
  obtain ⟨y, hy⟩ : ∃ x, x = D * d := ⟨_, rfl⟩
  rw [← hx1] at m1 B1 hnext
  rw [← hx2] at m2 B2 hnext
  rw [← hy] at m4 B3 B4 hnext
  obtain ⟨x3, hx3⟩ : ∃ x, x = x1 + x2 := ⟨_, rfl⟩
  have m3 : (x1 : Int) + (x2 : Int) = (x3 : Int) := by omega
  rw [← hx3] at hnext
  have GC := Lib.hid (fun wx => tgcd_any x3 y wx (by omega) (by omega))
  have g0 : 0 < Nat.gcd x3 y := gcd_pos_right B4
  obtain ⟨k, hk⟩ : ∃ k, k = Nat.gcd x3 y := ⟨_, rfl⟩
  rw [← hk] at GC g0 hnext
  have q1 : Int.tdiv (x3 : Int) (k : Int) = ((x3 / k : Nat) : Int) := by rw [Int.tdiv_eq_ediv_of_nonneg (by omega)]; rfl
  have q2 : Int.tdiv (y : Int) (k : Int) = ((y / k : Nat) : Int) := by rw [Int.tdiv_eq_ediv_of_nonneg (by omega)]; rfl
  have e1 := Nat.div_le_self x3 k
  have e2 := Nat.div_le_self y k
  obtain ⟨rfl, rfl⟩ : x3 / k = N' ∧ y / k = D' := ⟨congrArg Prod.fst hnext, congrArg Prod.snd hnext⟩
  obtain ⟨N1, hN'⟩ : ∃ N', N' = x3 / k := ⟨_, rfl⟩
  obtain ⟨D1, hD'⟩ : ∃ D', D' = y / k := ⟨_, rfl⟩
  rw [← hN'] at q1 e1 ⊢
  rw [← hD'] at q2 e2 ⊢
  have k0 : ¬ ((k : Int) = 0) := by omega
  have x3b : (x3 : Int) ≤ 140000000000000000 := by omega
  have KN : Hid (¬ k = 0) := Lib.hid (by omega)
  have WN : Hid (IntKind.i64.wrap (N1 : Int) = (N1 : Int)) := Lib.hid (by rw [IntKind.wrap_i64]; omega)
  have WD : Hid (IntKind.i64.wrap (D1 : Int) = (D1 : Int)) := Lib.hid (by rw [IntKind.wrap_i64]; omega)
  clear hx1 hx2 hx3 hy hk hN' hD' e1 e2 hnext
  have b2 := (((Below.refl w.heap.size w).alloc (o := .cells #[.int .i64 N, .int .i64 D] 39) (Nat.le_refl _)).alloc (o := .cells #[.int .i64 n, .int .i64 d] 39) (by simp)).alloc (o := .cells #[.int .i64 0, .int .i64 0] 39) (by simp; omega)
  have a1 := ((Arr.new w [.int .i64 N, .int .i64 D] 39).alloc (.cells #[.int .i64 n, .int .i64 d] 39)).alloc (.cells #[.int .i64 0, .int .i64 0] 39)
  have a2 := (Arr.new (w.alloc (.cells #[.int .i64 N, .int .i64 D] 39)) [.int .i64 n, .int .i64 d] 39).alloc (.cells #[.int .i64 0, .int .i64 0] 39)
  have a3 := Arr.new ((w.alloc (.cells #[.int .i64 N, .int .i64 D] 39)).alloc (.cells #[.int .i64 n, .int .i64 d] 39)) [.int .i64 0, .int .i64 0] 39
  have s1 : (w.alloc (.cells #[.int .i64 N, .int .i64 D] 39)).heap.size = w.heap.size + 1 := by simp
  have s2 : ((w.alloc (.cells #[.int .i64 N, .int .i64 D] 39)).alloc (.cells #[.int .i64 n, .int .i64 d] 39)).heap.size = w.heap.size + 1 + 1 := by simp
  rw [s1] at a2
  rw [s2] at a3
  clear s1 s2
  go_enter Try.func31, Try.ntmps31
  go_upto_region 1 with fail
  generalize hW : ((w.alloc _).alloc _).alloc _ = W at a1 a2 a3 b2 ⊢
  clear hW
  have z1 : W.cell? ⟨w.heap.size, 0, none⟩ = some (.int .i64 N) := a1.cellAt rfl
  have z2 : W.cell? ⟨w.heap.size, 1, none⟩ = some (.int .i64 D) := a1.cellAt rfl
  have z3 : W.cell? ⟨w.heap.size + 1, 0, none⟩ = some (.int .i64 n) := a2.cellAt rfl
  have z4 : W.cell? ⟨w.heap.size + 1, 1, none⟩ = some (.int .i64 d) := a2.cellAt rfl
  go_quiet (fail)
  clear z1 z2 z3 z4 a1 a2
  go_upto_region 3 with (go_at_call 40; (with_reducible refine (GC.out _).mono ?_); rintro e w4 ⟨rfl, hb4⟩)
  have a4 := (a3.drewN nq).below hb4 (a3.drewN nq).lt
  have b4 := (belowN b2 nq).trans (hb4.mono (belowN b2 nq).size)
  clear a3 b2 hb4
  refine wp_region_plan (fun w' => True) [] (.take 0 (.take 1 (.take 2 (.take 3 (.take 4 (.take 5 (.take 6 (.ask 7 false .stop .stop)))))))) (by kernel_rfl) (by kernel_rfl) (fun _ d _ _ _ h => by cases d <;> exact h) trivial ?_
  have a5 := a4.drew
  have b5 := b4.drew
  clear a4 b4
  generalize w4.drew = wd at a5 b5 ⊢
  refine take_any _ ?_ rfl rfl ?_ (fun K hK => ?_); rotate_left; (intro w0; go_simp; (try rfl)); (go_simp; refine hK _ ?_; clear hK K)
  refine take_any _ ?_ rfl rfl ?_ (fun K hK => ?_); rotate_left; (intro w0; go_simp; (try rfl)); (go_simp; refine hK _ ?_; clear hK K)
  refine take_any _ ?_ rfl rfl ?_ (fun K hK => ?_); rotate_left; (intro w0; go_simp; rw [if_neg KN.out, WN.out]); (go_simp; refine hK _ ?_; clear hK K)
  refine take_any _ ?_ rfl rfl ?_ (fun K hK => ?_); rotate_left; (intro w0; go_simp; (try rfl)); (go_simp; refine hK _ ?_; clear hK K)
  refine take_any _ ?_ rfl rfl ?_ (fun K hK => ?_); rotate_left; (intro w0; go_simp; (try rfl)); (go_simp; refine hK _ ?_; clear hK K)
  refine take_any _ ?_ rfl rfl ?_ (fun K hK => ?_); rotate_left; (intro w0; go_simp; rw [if_neg KN.out, WD.out]); (go_simp; refine hK _ ?_; clear hK K)
  refine take_any _ ?_ rfl rfl ?_ (fun K hK => ?_); rotate_left; (intro w0; go_simp; (try rfl)); (go_simp; refine hK _ ?_; clear hK K)
  refine ask_last _ rfl trivial ?_
  go_wp2_with (refine wp_st rfl 39 (.tmp 4) (.tmp 33) rfl _ [.int .i64 N1, .int .i64 D1] rfl rfl a5 Try.infofr rfl rfl (one2 _ _) ?_)
  exact ret_fr1 (a5.setRow [.int .i64 N1, .int .i64 D1]) rfl rfl rfl ⟨rfl, below_setRow b5 _ (by omega) _⟩
end Go.Proofs.Ytefhhfpdponabaa
