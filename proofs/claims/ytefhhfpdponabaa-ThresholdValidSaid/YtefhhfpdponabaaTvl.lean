/- The document's one and Valid; thresholds in memory. -/
import Derived.Test.YtefhhfpdponabaaTsm
namespace Go.Proofs.Ytefhhfpdponabaa
open Go.ChangeShapes Go.WideShapes Go.ChangeAt Go.RowKit
set_option linter.unusedVariables false
set_option linter.unusedSimpArgs false

/-- Lists of fractions in memory, below the block B. -/
def FrssAt (B : Nat) (w : World) (v : Value) (ws : List (List FR)) : Prop :=
  ∃ (ao : Option Addr) (cap : Nat), v = .slice ao ws.length cap ∧ ws.length ≤ cap ∧ cap ≤ maxLen ∧
    ∀ i l, ws[i]? = some l → ∃ g off u, ao = some ⟨g, off, none⟩ ∧ g < B ∧ w.cell? ⟨g, off + i, none⟩ = some u ∧ FrsAt B w u l
theorem FrssAt.below {B C : Nat} {w w' : World} {v : Value} {ws : List (List FR)} (h : FrssAt B w v ws) (hb : Below C w w') (hC : B ≤ C) : FrssAt B w' v ws := by
  obtain ⟨ao, cap, h1, h2, h3, h5⟩ := h
  refine ⟨ao, cap, h1, h2, h3, fun i l e => ?_⟩
  obtain ⟨g, off, u, a1, a2, a3, a4⟩ := h5 i l e
  exact ⟨g, off, u, a1, a2, (hb.cell (p := ⟨g, _, none⟩) (by show g < C; omega)).trans a3, a4.below hb hC⟩
set_option maxRecDepth 100000 in
theorem rone_any (B : Nat) (v : Value) (l : List FR) (w : World) (hv : FrsAt B w v l) (hB : B ≤ w.heap.size) : Calls Try.prog 28 #[v] w fun e w' => e = .returned (.bool (oneB l)) ∧ Below w.heap.size w w' := by
  have S := Lib.hid (rsum13_any B v l w hv hB)
  by_cases h0 : sumE l = 0
  · have er : sumR l = sumF l := by unfold sumR; rw [if_pos h0]
    have eo : oneB l = decide ((sumF l).2 ≤ (sumF l).1) := by
      unfold oneB
      rw [h0]
      exact Bool.true_and _
    rw [er, h0] at S
    rw [eo]
    generalize (sumF l).1 = N at S ⊢
    generalize (sumF l).2 = D at S ⊢
    clear hv h0 er eo
    go_enter Try.func28, Try.ntmps28
    go_wp2_with (go_at_call 20; (with_reducible refine S.out.mono ?_); rintro e w1 ⟨rfl, hb1⟩)
    go_ret
    exact ⟨rfl, hb1.alloc hb1.size _⟩
  · have eo : oneB l = false := by
      unfold oneB
      rw [show (sumE l == 0) = false by simp [h0]]
      rfl
    rw [eo]
    have hn : (sumE l == 0) = false := by simp [h0]
    generalize sumE l = x at S hn
    generalize (sumR l).1 = N at S
    generalize (sumR l).2 = D at S
    clear hv h0 eo
    go_enter Try.func28, Try.ntmps28
    go_wp2_with (go_at_call 20; (with_reducible refine S.out.mono ?_); rintro e w1 ⟨rfl, hb1⟩)
    go_ret
    exact ⟨rfl, hb1.alloc hb1.size _⟩
theorem lenL_take (ws : List (List FR)) : ∀ j, lenL (ws.take j) ≤ lenL ws := by
  induction ws with
  | nil => intro j; simp [lenL]
  | cons l r ih =>
    intro j
    cases j with
    | zero => simp [lenL]
    | succ j => simp only [List.take_succ_cons, lenL]; have := ih j; omega
theorem lenL_snoc : ∀ (a : List (List FR)) (l : List FR), lenL (a ++ [l]) = lenL a + l.length
  | [], l => by simp [lenL]
  | x :: a, l => by rw [List.cons_append, lenL, lenL, lenL_snoc a l]; omega
theorem lenL_le : ∀ (ws : List (List FR)) (k : Nat), (∀ l ∈ ws, l.length ≤ k) → lenL ws ≤ k * ws.length
  | [], k, _ => by simp [lenL]
  | l :: r, k, h => by
    have h1 := lenL_le r k (fun x hx => h x (.tail _ hx))
    have h2 := h l (.head _)
    rw [lenL, List.length_cons, Nat.mul_add]
    omega
set_option maxHeartbeats 1600000 in
set_option maxRecDepth 100000 in
theorem rvalid13_any (B : Nat) (num : Int) (v : Value) (ws : List (List FR)) (keys : Int) (w : World) (hv : FrssAt B w v ws) (hB : B ≤ w.heap.size) (hws : ws.length ≤ 1000000) : Calls Try.prog 16 #[.agg #[.int .i64 num, v], .int .i64 keys] w fun e w' => e = .returned (.bool (validB num ws keys)) ∧ Below w.heap.size w w' := by
  have hv0 := hv
  obtain ⟨ao, cap, rfl, hcl, hcm, hcells⟩ := hv
  obtain ⟨R, hR⟩ : ∃ R, R = validB num ws keys := ⟨_, rfl⟩
  rw [← hR]
  unfold validB at hR
  have b0 := (Below.refl w.heap.size w).alloc (o := .cells #[.int .i64 num, .slice ao ws.length cap] 25) (Nat.le_refl _)
  have hlen : ws = [] ↔ ws.length = 0 := List.length_eq_zero_iff.symm
  by_cases k0 : keys = 0
  · subst k0
    rw [if_pos rfl] at hR
    by_cases hn : num = 0
    · subst hn
      by_cases hl : ws = []
      · subst hl
        obtain rfl : R = true := hR
        clear hv0 hcells
        have hli : (((([] : List (List FR)).length : Nat) : Int) == 0) = true := rfl
        go_enter Try.func16, Try.ntmps16
        go_wp2
        go_ret
        exact ⟨rfl, b0⟩
      · have hli : ((ws.length : Int) == 0) = false := by simp only [beq_eq_false_iff_ne, ne_eq]; have := mt hlen.2 hl; omega
        obtain rfl : R = false := by rw [hR, decide_eq_false hl]; rfl
        clear hR hv0 hcells
        go_enter Try.func16, Try.ntmps16
        go_wp2
        go_ret
        exact ⟨rfl, b0⟩
    · have hni : (num == 0) = false := by simp [hn]
      obtain rfl : R = false := by rw [hR, decide_eq_false hn]; rfl
      clear hR hv0 hcells
      go_enter Try.func16, Try.ntmps16
      go_wp2
      go_ret
      exact ⟨rfl, b0⟩
  rw [if_neg k0] at hR
  have k0i : (keys == 0) = false := by simp [k0]
  by_cases k1 : keys < 0 ∨ 8 < keys
  · rw [if_pos k1] at hR
    subst hR
    by_cases k2 : keys < 0
    · clear hv0 hcells
      go_enter Try.func16, Try.ntmps16
      go_wp2
      go_ret
      exact ⟨rfl, b0⟩
    · have k3 : 8 < keys := by omega
      clear hv0 hcells
      go_enter Try.func16, Try.ntmps16
      go_wp2
      go_ret
      exact ⟨rfl, b0⟩
  rw [if_neg k1] at hR
  have k2 : ¬ keys < 0 := by omega
  have k3 : ¬ 8 < keys := by omega
  by_cases h0 : ws = []
  · rw [if_pos h0] at hR
    have hli : ((ws.length : Int) == 0) = true := by rw [h0]; rfl
    clear hcells hv0 h0
    by_cases n1 : 1 ≤ num
    · by_cases n2 : num ≤ keys
      · obtain rfl : R = true := by rw [hR, decide_eq_true n1, decide_eq_true n2]; rfl
        clear hR
        go_enter Try.func16, Try.ntmps16
        go_wp2
        go_ret
        exact ⟨rfl, b0⟩
      · obtain rfl : R = false := by rw [hR, decide_eq_true n1, decide_eq_false n2]; rfl
        clear hR
        go_enter Try.func16, Try.ntmps16
        go_wp2
        go_ret
        exact ⟨rfl, b0⟩
    · obtain rfl : R = false := by rw [hR, decide_eq_false n1]; rfl
      clear hR
      go_enter Try.func16, Try.ntmps16
      go_wp2
      go_ret
      exact ⟨rfl, b0⟩
  rw [if_neg h0] at hR
  have hli : ((ws.length : Int) == 0) = false := by simp only [beq_eq_false_iff_ne, ne_eq]; have := mt hlen.2 h0; omega
  have HR := Lib.hid hR
  have HC := Lib.hid hcells
  clear hR hcells hv0 hlen
  go_enter Try.func16, Try.ntmps16
  go_wp2
  go_loopw [5, 44] (fun n i wr => ∃ j : Nat, j ≤ ws.length ∧ i = .int .i64 j ∧ n = .int .i64 (lenL (ws.take j) : Nat) ∧ Hid (∀ k l, k < j → ws[k]? = some l → l ≠ [] ∧ oneB l = true) ∧ Arr wr w.heap.size 25 [.int .i64 num, .slice ao ws.length cap] ∧ Below w.heap.size w wr) (fun _ i _ => ws.length - (intOf i).toNat)
  case atStart => exact ⟨0, Nat.zero_le _, rfl, rfl, Lib.hid (fun k l h => absurd h (by omega)), Arr.new w _ _, b0⟩
  case round =>
    clear b0
    obtain ⟨j, hj, rfl, rfl, hall, hA, hb⟩ := hrel
    have hbs := hb.size
    by_cases hlt : j < ws.length
    · obtain ⟨l, hl⟩ : ∃ l, ws[j]? = some l := ⟨_, List.getElem?_eq_getElem hlt⟩
      obtain ⟨g, off, u, rfl, hg, c1, hF⟩ := HC.out j l hl
      have d1 := (hb.cell (p := ⟨g, _, none⟩) (by show g < w.heap.size; omega)).trans c1
      have ON := Lib.hid (fun (wx : World) (h : Below w.heap.size w wx) => rone_any B u l wx (hF.below h hB) (Nat.le_trans hB h.size))
      obtain ⟨ao', cap', rfl, hcl', hcm', -, -⟩ := hF
      have hsn : lenL (ws.take (j + 1)) = lenL (ws.take j) + l.length := by rw [List.take_add_one, hl]; exact lenL_snoc _ _
      have HL := Lib.hid hl
      clear c1 hl
      by_cases hz : l = []
      · subst hz
        obtain rfl : R = false := by
          rw [HR.out]
          have : ws.all (fun l => !l.isEmpty && oneB l) = false := by
            cases e : ws.all (fun l => !l.isEmpty && oneB l) with
            | false => rfl
            | true => have := List.all_eq_true.1 e [] (List.mem_of_getElem? HL.out); cases this
          rw [this]; rfl
        have hz0 : ((([] : List FR).length : Int) == 0) = true := rfl
        clear hsn hall
        go_wp2
        go_ret
        exact ⟨rfl, hb⟩
      · have hz0 : ((l.length : Int) == 0) = false := by simp only [beq_eq_false_iff_ne, ne_eq]; have := mt List.length_eq_zero_iff.1 hz; omega
        cases ho : oneB l with
        | false =>
          rw [ho] at ON
          obtain rfl : R = false := by
            rw [HR.out]
            have : ws.all (fun l => !l.isEmpty && oneB l) = false := by
              cases e : ws.all (fun l => !l.isEmpty && oneB l) with
              | false => rfl
              | true =>
                have := List.all_eq_true.1 e l (List.mem_of_getElem? HL.out)
                rw [ho, Bool.and_false] at this; cases this
            rw [this]; rfl
          clear hsn hall ho hz
          go_wp2_with (go_at_call 28; (with_reducible refine (ON.out _ hb).mono ?_); rintro e w1 ⟨rfl, hb1⟩)
          go_ret
          exact ⟨rfl, hb.trans (hb1.mono hb.size)⟩
        | true =>
          rw [ho] at ON
          have hl8 : l.length ≤ 8 := ((oneB_iff l).1 ho).1.1
          have hall' : Hid (∀ k x, k < j + 1 → ws[k]? = some x → x ≠ [] ∧ oneB x = true) := Lib.hid (fun k x hk hx => by
            by_cases e : k = j
            · subst e; rw [HL.out] at hx; cases hx; exact ⟨hz, ho⟩
            · exact hall.out k x (by omega) hx)
          have hbnd : lenL (ws.take j) ≤ 8 * (ws.take j).length := lenL_le _ 8 (fun x hx => by
            obtain ⟨i, hi⟩ := List.getElem?_of_mem hx
            have hij : i < j := by
              rcases Nat.lt_or_ge i j with h | h
              · exact h
              · rw [List.getElem?_eq_none (by rw [List.length_take]; omega)] at hi; cases hi
            rw [List.getElem?_take, if_pos hij] at hi
            exact ((oneB_iff x).1 (hall.out i x hij hi).2).1.1)
          rw [List.length_take] at hbnd
          obtain ⟨n0, hn0⟩ : ∃ n0, n0 = lenL (ws.take j) := ⟨_, rfl⟩
          rw [← hn0] at hbnd hsn ⊢
          have hsn' : (n0 : Int) + (l.length : Int) = ((lenL (ws.take (j + 1)) : Nat) : Int) := by omega
          have hnb : (n0 : Int) ≤ 1125899906842624 := by omega
          have HSN := Lib.hid hsn'
          clear hsn hall ho hz hn0 hbnd hsn'
          go_wp2_with (go_at_call 28; (with_reducible refine (ON.out _ hb).mono ?_); rintro e w1 ⟨rfl, hb1⟩)
          go_roundw
          case rel => exact ⟨j + 1, by omega, by go_num, by rw [← HSN.out], hall', hA.below hb1 hA.lt, hb.trans (hb1.mono hb.size)⟩
          case measure => simp [intOf]; omega
    · obtain rfl : j = ws.length := by omega
      have hwall : ws.all (fun l => !l.isEmpty && oneB l) = true := List.all_eq_true.2 (fun l hl => by
        obtain ⟨i, hi⟩ := List.getElem?_of_mem hl
        have := hall.out i l (by
          rcases Nat.lt_or_ge i ws.length with h | h
          · exact h
          · rw [List.getElem?_eq_none h] at hi; cases hi) hi
        rw [this.2, Bool.and_true]
        cases l with
        | nil => exact absurd rfl this.1
        | cons a l => rfl)
      have hR := HR.out
      rw [hwall, Bool.true_and] at hR
      rw [List.take_length]
      obtain ⟨n0, hn0⟩ : ∃ n0, n0 = lenL ws := ⟨_, rfl⟩
      rw [← hn0] at hR ⊢
      have z1 : wr.cell? ⟨w.heap.size, 0, none⟩ = some (.int .i64 num) := hA.cellAt rfl
      clear hwall hn0 hall HC HR
      by_cases hn : num = 0
      · subst hn
        rw [decide_eq_true rfl, Bool.true_and] at hR
        subst hR
        go_wp2
        go_ret
        exact ⟨rfl, hb⟩
      · have hni : (num == 0) = false := by simp [hn]
        obtain rfl : R = false := by rw [hR, decide_eq_false hn]; rfl
        clear hR
        go_wp2
        go_ret
        exact ⟨rfl, hb⟩
end Go.Proofs.Ytefhhfpdponabaa
