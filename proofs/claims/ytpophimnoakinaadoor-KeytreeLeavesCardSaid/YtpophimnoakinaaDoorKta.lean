/- The program's keys: the seed of a use, leaves, inner nodes, places. -/
import Derived.Test.YtpophimnoakinaaDoorKrv
namespace Go.Proofs.YtpophimnoakinaaDoor
open Go.ChangeShapes Go.WideShapes Go.ChangeAt Go.RowKit
set_option linter.unusedVariables false
set_option linter.unusedSimpArgs false

theorem sum_b (s : ByteArray) (w : World) (hs : s.size ≤ 1000000) (hT : STab w) : Calls Tryd.prog 55 #[.string s] w fun e w' => e = .returned (.string (smB s)) ∧ Below w.heap.size w w' := sum_any s w (by omega) hT
set_option maxRecDepth 100000 in
theorem useSeed_any (s : ByteArray) (u : Int) (w : World) (hs : s.size ≤ 999990) (hT : STab w) : Calls Tryd.prog 27 #[.string s, .int .i64 u] w fun e w' => e = .returned (.string (useB s u)) ∧ Below w.heap.size w w' := by
  have hcv := one_conv w u
  have h1 : (oneB u).size = 1 := rfl
  unfold useB
  obtain ⟨t, ht⟩ : ∃ t, t = oneB u := ⟨_, rfl⟩
  rw [← ht] at hcv h1 ⊢
  obtain ⟨p, hp⟩ : ∃ p, s ++ t = p := ⟨_, rfl⟩
  have hps : p.size ≤ 1000000 := by rw [← hp, ByteArray.size_append, h1]; omega
  rw [hp]
  have S1 := Lib.hid (fun (wx : World) (h : STab wx) => sum_b p wx (by omega) h)
  have b0 := (Below.refl w.heap.size w).alloc (o := .cells #[.int .u8 (u % 256)] 5) (Nat.le_refl _)
  have T0 := Lib.hid (hT.below b0)
  clear ht hT
  go_enter Tryd.func27, Tryd.ntmps27
  go_wp2_with (go_at_call 55; (with_reducible refine (S1.out _ T0.out).mono ?_); rintro e w1 ⟨rfl, hb1⟩)
  go_ret
  exact ⟨rfl, b0.trans (hb1.mono b0.size)⟩
set_option maxRecDepth 100000 in
theorem leafOf_any (q : ByteArray) (w : World) (hq : q.size = 16) (hT : STab w) : Calls Tryd.prog 25 #[.string q] w fun e w' => e = .returned (.string (lfB q)) ∧ Below w.heap.size w w' := by
  unfold lfB
  obtain ⟨p, hp⟩ : ∃ p : ByteArray, { data := #[0] } ++ q = p := ⟨_, rfl⟩
  have hps : p.size ≤ 1000000 := by rw [← hp, ByteArray.size_append, hq]; decide
  rw [hp]
  have A3 := Lib.hid (short_b p w hps hT)
  have hqs : q.size ≤ 100 := by omega
  clear hq hT
  go_enter Tryd.func25, Tryd.ntmps25
  go_wp2_with (go_at_call 52; (with_reducible refine A3.out.mono ?_); rintro e w3 ⟨rfl, hb3⟩)
  go_ret
  exact ⟨rfl, hb3⟩
set_option maxRecDepth 100000 in
theorem keyOf_any (q : ByteArray) (w : World) (hq : q.size = 16) (hT : STab w) : Calls Tryd.prog 30 #[.string q] w fun e w' => e = .returned (.string (topB q)) ∧ Below w.heap.size w w' := by
  unfold topB
  obtain ⟨p, hp⟩ : ∃ p : ByteArray, { data := #[2] } ++ q = p := ⟨_, rfl⟩
  have hps : p.size ≤ 1000000 := by rw [← hp, ByteArray.size_append, hq]; decide
  rw [hp]
  have A3 := Lib.hid (sum_b p w hps hT)
  have hqs : q.size ≤ 100 := by omega
  clear hq hT
  go_enter Tryd.func30, Tryd.ntmps30
  go_wp2_with (go_at_call 55; (with_reducible refine A3.out.mono ?_); rintro e w3 ⟨rfl, hb3⟩)
  go_ret
  exact ⟨rfl, hb3⟩
set_option maxRecDepth 100000 in
theorem join_any (a b : ByteArray) (w : World) (ha : a.size ≤ 1000) (hb : b.size ≤ 1000) (hT : STab w) : Calls Tryd.prog 58 #[.string a, .string b] w fun e w' => e = .returned (.string (nodB a b)) ∧ Below w.heap.size w w' := by
  unfold nodB
  obtain ⟨q, hq⟩ : ∃ q : ByteArray, { data := #[1] } ++ a = q := ⟨_, rfl⟩
  have hqs : q.size = 1 + a.size := by rw [← hq, ByteArray.size_append]; rfl
  obtain ⟨p, hp⟩ : ∃ p : ByteArray, q ++ b = p := ⟨_, rfl⟩
  have hps : p.size ≤ 1000000 := by rw [← hp, ByteArray.size_append, hqs]; omega
  rw [hq, hp]
  have A3 := Lib.hid (short_b p w hps hT)
  have hqz : q.size ≤ 2000 := by omega
  clear hqs hT
  go_enter Tryd.func58, Tryd.ntmps58
  go_wp2_with (go_at_call 52; (with_reducible refine A3.out.mono ?_); rintro e w3 ⟨rfl, hb3⟩)
  go_ret
  exact ⟨rfl, hb3⟩
set_option maxRecDepth 100000 in
theorem leaf12_any (s : ByteArray) (u : Int) (w : World) (hs : s.size ≤ 999990) (hT : STab w) : Calls Tryd.prog 8 #[.string s, .int .i64 u] w fun e w' => e = .returned (.string (leafB s u)) ∧ Below w.heap.size w w' := by
  have A1 := Lib.hid (useSeed_any s u w hs hT)
  have hz := useB_size s u
  unfold leafB
  obtain ⟨t, ht⟩ : ∃ t, t = useB s u := ⟨_, rfl⟩
  rw [← ht] at A1 hz ⊢
  have A2 := Lib.hid (fun (wx : World) (h : STab wx) => public_b t wx (by omega) h)
  have hq := pubB_size t
  obtain ⟨q, hqe⟩ : ∃ q, q = pubB t := ⟨_, rfl⟩
  rw [← hqe] at A2 hq ⊢
  have A3 := Lib.hid (fun (wx : World) (h : STab wx) => leafOf_any q wx hq h)
  have HT := Lib.hid hT
  clear ht hqe hz hT hq
  go_enter Tryd.func8, Tryd.ntmps8
  go_wp2_with (first
    | (go_at_call 27; (with_reducible refine A1.out.mono ?_); rintro e w1 ⟨rfl, hb1⟩)
    | (go_at_call 26; (with_reducible refine (A2.out _ (HT.out.below hb1)).mono ?_); rintro e w2 ⟨rfl, hb2⟩; have hb12 := hb1.trans (hb2.mono hb1.size))
    | (go_at_call 25; (with_reducible refine (A3.out _ (HT.out.below hb12)).mono ?_); rintro e w3 ⟨rfl, hb3⟩))
  go_ret
  exact ⟨rfl, hb12.trans (hb3.mono hb12.size)⟩
set_option maxRecDepth 100000 in
theorem above_any (p : Nat) (w : World) (hp : p ≤ 100) : Calls Tryd.prog 38 #[.int .i64 (p : Int)] w fun e w' => e = .returned (.int .i64 ((p / 2 : Nat) : Int)) ∧ w' = w := by
  have h2 : ((p / 2 : Nat) : Int) = (p : Int) / 2 := by omega
  have ht : Int.tdiv (p : Int) 2 = (p : Int) / 2 := by rw [Int.tdiv_eq_ediv_of_nonneg (by omega)]
  rw [h2]
  go_enter Tryd.func38, Tryd.ntmps38
  go_wp2
  go_ret
  exact ⟨rfl, rfl⟩
/-- The place beside. -/
def bsN (p : Nat) : Nat := if p % 2 = 0 then p + 1 else p - 1
theorem bsN_bits (p : Nat) (hp : p < 16) : bits BinOp.xor IntKind.i64 (p : Int) 1 = ((bsN p : Nat) : Int) := by
  have : ∀ p : Fin 16, bits BinOp.xor IntKind.i64 ((p.1 : Nat) : Int) 1 = ((bsN p.1 : Nat) : Int) := by decide
  exact this ⟨p, hp⟩
set_option maxRecDepth 100000 in
theorem beside_any (p : Nat) (w : World) (hp : p < 16) : Calls Tryd.prog 39 #[.int .i64 (p : Int)] w fun e w' => e = .returned (.int .i64 ((bsN p : Nat) : Int)) ∧ w' = w := by
  have hb := bsN_bits p hp
  go_enter Tryd.func39, Tryd.ntmps39
  go_wp2
  go_ret
  exact ⟨rfl, rfl⟩
end Go.Proofs.YtpophimnoakinaaDoor
