/- slices.ContainsFunc over lists of weights, for whatever function value that keeps a relation; the program's Valid. -/
import Derived.Test.YtefhhfpdponabaaTpb
import Derived.Shelf.Abstract
namespace Go.Proofs.Ytefhhfpdponabaa
open Go.ChangeShapes Go.WideShapes Go.ChangeAt Go.RowKit
set_option linter.unusedVariables false
set_option linter.unusedSimpArgs false

set_option maxHeartbeats 800000 in
set_option maxRecDepth 100000 in
theorem tidx_any (g : Nat) (lb : Array Value) (b off n c : Nat) (q : Nat → Bool) (u : Nat → Value) (J : Nat → World → Prop) (w : World) (hn : n ≤ 1000000) (eg : ∀ args w, (callFunc g args).run Try.prog w = .ok (.enter g args) w) (h0 : J 0 w)
    (hc : ∀ j wr, j < n → J j wr → wr.cell? ⟨b, off + j, none⟩ = some (u j)) (hf : ∀ j wr, j < n → J j wr → Calls Try.prog g (#[u j] ++ lb) wr fun e w' => e = .returned (.bool (q j)) ∧ J (j + 1) w') :
    Calls Try.prog 36 #[.slice (some ⟨b, off, none⟩) n c, .func (.func g) #[] lb] w fun e w' => (∃ i : Int, e = .returned (.int .i64 i) ∧ (0 ≤ i ↔ ∃ j, j < n ∧ q j = true)) ∧ ∃ j, j ≤ n ∧ J j w' := by
  have HC := Lib.hid hc
  have HF := Lib.hid hf
  clear hc hf
  go_enter Try.func36, Try.ntmps36
  go_wp2
  go_loopw [5, 8] (fun _ i wr => ∃ j : Nat, j ≤ n ∧ i = .int .i64 j ∧ Hid (∀ k, k < j → q k = false) ∧ Hid (J j wr)) (fun _ i _ => n - (intOf i).toNat)
  case atStart => exact ⟨0, Nat.zero_le _, rfl, Lib.hid (fun k h => absurd h (Nat.not_lt_zero _)), Lib.hid h0⟩
  case round =>
    obtain ⟨j, hj, rfl, hno, hJ⟩ := hrel
    by_cases hlt : j < n
    · have c1 := HC.out j wr hlt hJ.out
      have hcall := HF.out j wr hlt hJ.out
      generalize u j = uj at c1 hcall
      cases hq : q j with
      | true =>
        rw [hq] at hcall
        have HQ := Lib.hid hq
        clear hq
        go_wp2_with (go_at_fn g; refine hcall.mono ?_; rintro e w' ⟨rfl, hJ'⟩)
        go_ret
        exact ⟨⟨_, rfl, ⟨fun _ => ⟨j, hlt, HQ.out⟩, fun _ => by omega⟩⟩, j + 1, by omega, hJ'⟩
      | false =>
        rw [hq] at hcall
        have HQ := Lib.hid hq
        clear hq
        go_wp2_with (go_at_fn g; refine hcall.mono ?_; rintro e w' ⟨rfl, hJ'⟩; replace hJ' := Lib.hid hJ')
        go_roundw
        case rel => exact ⟨j + 1, by omega, by go_num, Lib.hid (fun k hk => by
          by_cases e : k = j
          · rw [e]; exact HQ.out
          · exact hno.out k (by omega)), hJ'⟩
        case measure => simp [intOf]; omega
    · obtain rfl : j = n := by omega
      go_wp2
      go_ret
      exact ⟨⟨_, rfl, ⟨fun h => absurd h (by decide), fun ⟨k, hk, hq⟩ => by rw [hno.out k hk] at hq; cases hq⟩⟩, j, Nat.le_refl _, hJ.out⟩
set_option maxHeartbeats 800000 in
set_option maxRecDepth 100000 in
theorem tcont_any (g : Nat) (lb : Array Value) (b off n c : Nat) (q : Nat → Bool) (u : Nat → Value) (J : Nat → World → Prop) (w : World) (hn : n ≤ 1000000) (eg : ∀ args w, (callFunc g args).run Try.prog w = .ok (.enter g args) w) (h0 : J 0 w)
    (hc : ∀ j wr, j < n → J j wr → wr.cell? ⟨b, off + j, none⟩ = some (u j)) (hf : ∀ j wr, j < n → J j wr → Calls Try.prog g (#[u j] ++ lb) wr fun e w' => e = .returned (.bool (q j)) ∧ J (j + 1) w') :
    Calls Try.prog 27 #[.slice (some ⟨b, off, none⟩) n c, .func (.func g) #[] lb] w fun e w' => (∃ r : Bool, e = .returned (.bool r) ∧ (r = true ↔ ∃ j, j < n ∧ q j = true)) ∧ ∃ j, j ≤ n ∧ J j w' := by
  have IX := Lib.hid (tidx_any g lb b off n c q u J w hn eg h0 hc hf)
  clear h0 hc hf
  go_enter Try.func27, Try.ntmps27
  go_wp2_with (go_at_call 36; (with_reducible refine IX.out.mono ?_); rintro e w1 ⟨⟨i, rfl, hi⟩, hJ⟩; replace hi := Lib.hid hi; replace hJ := Lib.hid hJ)
  go_ret
  exact ⟨⟨decide (0 ≤ i), rfl, by rw [decide_eq_true_eq]; exact hi.out⟩, hJ.out⟩
set_option maxRecDepth 100000 in
theorem tshort_any (B : Nat) (v : Value) (l : List FR) (w : World) (hv : FrsAt B w v l) (hB : B ≤ w.heap.size) : Calls Try.prog 24 #[v] w fun e w' => e = .returned (.bool (!oneB l)) ∧ Below w.heap.size w w' := by
  have S := Lib.hid (treach_any B v l w hv hB)
  generalize oneB l = o at S ⊢
  clear hv
  go_enter Try.func24, Try.ntmps24
  go_wp2_with (go_at_call 25; (with_reducible refine S.out.mono ?_); rintro e w1 ⟨rfl, hb1⟩)
  go_ret
  exact ⟨rfl, hb1⟩
theorem validB_eq {num : Int} {ws : List (List FR)} {keys : Int} : validB num ws keys = if keys < 0 ∨ 8 < keys then false else if ws = [] then decide (min keys 1 ≤ num) && decide (num ≤ keys) else decide (num = 0) && decide ((lenL ws : Int) = keys) && ws.all oneB := by
  have hall : ws.all (fun l => !l.isEmpty && oneB l) = ws.all oneB := by
    congr 1
    funext l
    cases l with
    | nil => rfl
    | cons a l => rfl
  unfold validB
  rw [hall]
  by_cases k0 : keys = 0
  · subst k0
    rw [if_pos rfl, if_neg (by omega)]
    by_cases hw : ws = []
    · rw [if_pos hw, decide_eq_true hw, Bool.and_true, Bool.eq_iff_iff, Bool.and_eq_true, decide_eq_true_eq, decide_eq_true_eq, decide_eq_true_eq]
      omega
    · rw [if_neg hw, decide_eq_false hw, Bool.and_false]
      symm
      cases ws with
      | nil => exact absurd rfl hw
      | cons l r =>
        cases e : decide (num = 0) && decide ((lenL (l :: r) : Int) = 0) && (l :: r).all oneB with
        | false => rfl
        | true =>
          rw [Bool.and_eq_true, Bool.and_eq_true, decide_eq_true_eq, decide_eq_true_eq, List.all_cons, Bool.and_eq_true] at e
          have h1 := e.1.2
          unfold lenL at h1
          have : l = [] := List.length_eq_zero_iff.1 (by omega)
          rw [this, one_nil] at e
          cases e.2.1
  · rw [if_neg k0]
    by_cases k1 : keys < 0 ∨ 8 < keys
    · rw [if_pos k1, if_pos k1]
    · rw [if_neg k1, if_neg k1]
      by_cases hw : ws = []
      · rw [if_pos hw, if_pos hw, show min keys 1 = 1 by omega]
      · rw [if_neg hw, if_neg hw, Bool.and_assoc, Bool.and_comm]
set_option maxHeartbeats 800000 in
set_option maxRecDepth 100000 in
theorem tvalid_any (B : Nat) (num : Int) (v : Value) (ws : List (List FR)) (keys : Int) (w : World) (hv : FrssAt B w v ws) (hB : B ≤ w.heap.size) (hws : ws.length ≤ 1000000) (hM : lenL ws ≤ 1000000) : Calls Try.prog 15 #[.agg #[.int .i64 num, v], .int .i64 keys] w fun e w' => e = .returned (.bool (validB num ws keys)) ∧ Below w.heap.size w w' := by
  have hv0 := hv
  obtain ⟨ao, cap, rfl, hcl, hcm, hcells⟩ := hv
  obtain ⟨R, hR⟩ : ∃ R, R = validB num ws keys := ⟨_, rfl⟩
  rw [← hR]
  rw [validB_eq] at hR
  have b0 := (Below.refl w.heap.size w).alloc (o := .cells #[.int .i64 num, .slice ao ws.length cap] 25) (Nat.le_refl _)
  by_cases k2 : keys < 0
  · rw [if_pos (.inl k2)] at hR
    subst hR
    clear hv0 hcells
    go_enter Try.func15, Try.ntmps15
    go_wp2
    go_ret
    exact ⟨rfl, b0⟩
  by_cases k3 : 8 < keys
  · rw [if_pos (.inr k3)] at hR
    subst hR
    clear hv0 hcells
    go_enter Try.func15, Try.ntmps15
    go_wp2
    go_ret
    exact ⟨rfl, b0⟩
  rw [if_neg (by omega)] at hR
  by_cases h0 : ws = []
  · rw [if_pos h0] at hR
    have hli : ((ws.length : Int) == 0) = true := by rw [h0]; rfl
    clear hcells hv0 h0
    by_cases k0 : keys = 0
    · subst k0
      rw [show min (0 : Int) 1 = 0 from rfl] at hR
      by_cases n1 : 0 ≤ num
      · by_cases n2 : num ≤ 0
        · obtain rfl : R = true := by rw [hR, decide_eq_true n1, decide_eq_true n2]; rfl
          clear hR
          go_enter Try.func15, Try.ntmps15
          go_wp2
          go_ret
          exact ⟨rfl, b0⟩
        · obtain rfl : R = false := by rw [hR, decide_eq_true n1, decide_eq_false n2]; rfl
          clear hR
          go_enter Try.func15, Try.ntmps15
          go_wp2
          go_ret
          exact ⟨rfl, b0⟩
      · obtain rfl : R = false := by rw [hR, decide_eq_false n1]; rfl
        clear hR
        go_enter Try.func15, Try.ntmps15
        go_wp2
        go_ret
        exact ⟨rfl, b0⟩
    · have k1 : 1 ≤ keys := by omega
      have k1' : ¬ keys < 1 := by omega
      rw [show min keys 1 = 1 by omega] at hR
      by_cases n1 : 1 ≤ num
      · by_cases n2 : num ≤ keys
        · obtain rfl : R = true := by rw [hR, decide_eq_true n1, decide_eq_true n2]; rfl
          clear hR
          go_enter Try.func15, Try.ntmps15
          go_wp2
          all_goals (go_ret; exact ⟨rfl, b0⟩)
        · obtain rfl : R = false := by rw [hR, decide_eq_true n1, decide_eq_false n2]; rfl
          clear hR
          go_enter Try.func15, Try.ntmps15
          go_wp2
          all_goals (go_ret; exact ⟨rfl, b0⟩)
      · obtain rfl : R = false := by rw [hR, decide_eq_false n1]; rfl
        clear hR
        go_enter Try.func15, Try.ntmps15
        go_wp2
        all_goals (go_ret; exact ⟨rfl, b0⟩)
  rw [if_neg h0] at hR
  have hli : ((ws.length : Int) == 0) = false := by simp only [beq_eq_false_iff_ne, ne_eq]; have := mt List.length_eq_zero_iff.1 h0; omega
  by_cases hn : num = 0
  rotate_left
  · have hni : (num == 0) = false := by simp [hn]
    obtain rfl : R = false := by rw [hR, decide_eq_false hn]; rfl
    clear hR hv0 hcells
    go_enter Try.func15, Try.ntmps15
    go_wp2
    go_ret
    exact ⟨rfl, b0⟩
  subst hn
  rw [decide_eq_true rfl, Bool.true_and] at hR
  have CN := Lib.hid (fun (wx : World) (h : Below w.heap.size w wx) => tcount_any B 0 _ ws wx (hv0.below h hB) (Nat.le_trans hB h.size) hws hM)
  by_cases hk : (lenL ws : Int) = keys
  rotate_left
  · have hki : ((lenL ws : Int) == keys) = false := by simp [hk]
    obtain rfl : R = false := by rw [hR, decide_eq_false hk]; rfl
    generalize lenL ws = n at CN hki
    clear hR hv0 hcells hk
    go_enter Try.func15, Try.ntmps15
    go_wp2_with (go_at_call 26; (with_reducible refine (CN.out _ b0).mono ?_); rintro e w1 ⟨rfl, hb1⟩)
    go_ret
    exact ⟨rfl, b0.trans (hb1.mono b0.size)⟩
  have hki : ((lenL ws : Int) == keys) = true := by simp [hk]
  rw [decide_eq_true hk, Bool.true_and] at hR
  generalize lenL ws = n at CN hki
  clear hk
  cases ws with
  | nil => exact absurd rfl h0
  | cons l0 r0 =>
  obtain ⟨g, off, u0, rfl, hg, -, -⟩ := hcells 0 l0 rfl
  generalize hws2 : l0 :: r0 = ws at *
  have hcells' : ∀ j wr, j < ws.length → Below w.heap.size w wr → ∃ u, w.cell? ⟨g, off + j, none⟩ = some u ∧ wr.cell? ⟨g, off + j, none⟩ = some u ∧ FrsAt B wr u (ws.getD j []) := fun j wr hj hb => by
    obtain ⟨g', off', u, e, hg', c1, hF⟩ := hcells j _ (List.getElem?_eq_getElem hj)
    cases e
    have e2 : ws.getD j [] = ws[j] := by rw [List.getD_eq_getElem?_getD, List.getElem?_eq_getElem hj]; rfl
    rw [e2]
    exact ⟨u, c1, (hb.cell (p := ⟨g, _, none⟩) (by show g < w.heap.size; omega)).trans c1, hF.below hb hB⟩
  have eg : ∀ args w, (callFunc 24 args).run Try.prog w = .ok (.enter 24 args) w := enters_of Try.func24 (by kernel_rfl) rfl
  have CT := Lib.hid (fun (wx : World) (h : Below w.heap.size w wx) => tcont_any 24 #[] g off ws.length cap (fun j => !oneB (ws.getD j [])) (fun j => (w.cell? ⟨g, off + j, none⟩).getD undef) (fun _ wr => Below w.heap.size w wr) wx hws eg h (fun j wr hj hb => by
      obtain ⟨u, c1, c2, -⟩ := hcells' j wr hj hb
      rw [c1, c2]; rfl) (fun j wr hj hb => by
      obtain ⟨u, c1, c2, hF⟩ := hcells' j wr hj hb
      rw [c1]
      exact (tshort_any B u _ wr hF (Nat.le_trans hB hb.size)).mono (fun e w' h => ⟨h.1, hb.trans (h.2.mono hb.size)⟩)))
  have HR : Hid (∀ r : Bool, (r = true ↔ ∃ j, j < ws.length ∧ (!oneB (ws.getD j [])) = true) → (!r) = R) := Lib.hid (fun r hr => by
    rw [hR]
    cases r with
    | true =>
      obtain ⟨j, hj, h⟩ := hr.1 rfl
      symm
      cases e : ws.all oneB with
      | false => rfl
      | true =>
        rw [List.getD_eq_getElem?_getD, List.getElem?_eq_getElem hj, Option.getD_some] at h
        rw [List.all_eq_true.1 e _ (List.getElem_mem hj)] at h
        cases h
    | false =>
      symm
      rw [Bool.not_false, List.all_eq_true]
      intro l hl
      obtain ⟨j, hj, rfl⟩ := List.getElem_of_mem hl
      cases h : oneB ws[j] with
      | true => rfl
      | false =>
        have := hr.2 ⟨j, hj, by rw [List.getD_eq_getElem?_getD, List.getElem?_eq_getElem hj]; show (!oneB ws[j]) = true; rw [h]; rfl⟩
        cases this)
  clear hR hv0 hcells hcells' hws2 h0 eg
  have a0 := Arr.new w [.int .i64 0, .slice (some ⟨g, off, none⟩) ws.length cap] 25
  go_enter Try.func15, Try.ntmps15
  go_wp2_with (first
    | (go_at_call 26; (with_reducible refine (CN.out _ b0).mono ?_); rintro e w1 ⟨rfl, hb1⟩; have b1 := b0.trans (hb1.mono b0.size); have z1 : w1.cell? ⟨w.heap.size, 1, none⟩ = some (.slice (some ⟨g, off, none⟩) ws.length cap) := (a0.below hb1 a0.lt).cellAt rfl)
    | (go_at_call 27; (with_reducible refine (CT.out _ b1).mono ?_); rintro e w2 ⟨⟨r, rfl, hr⟩, k, hk, hb2⟩; replace hr := HR.out r hr; replace hk := Lib.hid hk))
  go_ret
  exact ⟨rfl, hb2⟩
end Go.Proofs.Ytefhhfpdponabaa
