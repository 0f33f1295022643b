/- The document's bytes of the third serialisation: big, one, number, text. -/
import Derived.Test.YtmlmdidaldcoiaaGreatDoorCw
namespace Go.Proofs.YtmlmdidaldcoiaaGreatDoor
open Go Go.ChangeShapes Go.WideShapes Go.ChangeAt Go.RowKit
set_option linter.unusedVariables false
set_option linter.unusedSimpArgs false

set_option maxHeartbeats 1600000 in
set_option maxRecDepth 100000 in
theorem rpbig_any (n : Nat) (k : Nat) (w : World) (hk : k ≤ 8) (hn : n < 18446744073709551616) : Calls Tryz.prog 88 #[.int .u64 (n : Int), .int .i64 (k : Int)] w fun e w' => e = .returned (.string (bC (bigL n k))) ∧ Below w.heap.size w w' := by
 obtain ⟨ib, hib, hb0, hb1, hb2⟩ := info_parts Tryz.info5
 have hub := Tryz.underlying54
 have hu8 := Tryz.underlying5
 have hust := Tryz.underlying9
 have HIB := Lib.hid hib
 have hk8 : (k : Int) ≤ 8 := by omega
 have hk1 : IntKind.i64.wrap ((k : Int) - 1) = (k : Int) - 1 := IntWalk.i64_in _ (by omega)
 obtain ⟨N, hN⟩ : ∃ N : Int, N = (n : Int) := ⟨_, rfl⟩
 rw [← hN]
 have HN := Lib.hid (And.intro hN hn)
 clear hN hn hib
 go_enter Tryz.func88, Tryz.ntmps88
 go_upto_region 3 with fail
 go_loopw [5, 6] (fun v i wr => ∃ (j : Nat), i = .int .i64 ((k : Int) - 1 - (j : Int)) ∧ j ≤ k ∧ wr.ownsRow w.heap.size 5 1 v j (bytesV ((bigL n k).take j)) ∧ Below w.heap.size w wr) (fun _ i _ => (intOf i + 1).toNat)
 case atStart => exact ⟨0, by simp, Nat.zero_le _, World.ownsRow_nil w _ _ _, Below.refl _ _⟩
 case round =>
  obtain ⟨j, rfl, hj, hown, hB⟩ := hrel
  have HROW := Lib.hid (And.intro hown hB)
  clear hown hB
  by_cases hlt : j < k
  ·have hge : (0 : Int) ≤ (k : Int) - 1 - (j : Int) := by omega
   obtain ⟨i, hi⟩ : ∃ i : Nat, (i : Int) = (k : Int) - 1 - (j : Int) := ⟨k - 1 - j, by omega⟩
   have hi7 : (i : Int) ≤ 7 := by omega
   have hi0 : (0 : Int) ≤ (i : Int) := by omega
   rw [← hi] at hge ⊢
   have HI := Lib.hid hi
   clear hi hge
   obtain ⟨c, hcc⟩ : ∃ c, c = UInt8.ofNat (n / 256 ^ i) := ⟨_, rfl⟩
   have hc : N / 2 ^ (8 * i) % 256 = (c.toNat : Int) := by rw [HN.out.1, hcc]; exact byte_at n i
   have HC := Lib.hid hcc
   have hbl : ((bigL n k).take j).length = j := by rw [List.length_take, bigL_length]; omega
   have HBL := Lib.hid hbl
   clear hcc hbl
   go_wp2_with (refine wpList_append_lies _ rfl (.tmp 13) (.tmp 20) 54 rfl w.heap.size 5 ib (.int .u8 0) 1 1 hub HIB.out hb0 hb1 hb2 rfl (by decide) _ j _ rfl (HROW.out.1.alloc (.cells #[.int .u8 (c.toNat : Int)] 5)) ⟨wr.heap.size, 0, none⟩ 1 1 [.int .u8 (c.toNat : Int)] rfl rfl (cells_new wr #[.int .u8 (c.toNat : Int)] 5 [.int .u8 (c.toNat : Int)] rfl) (by intro u hu; simp only [List.mem_cons, List.not_mem_nil, or_false] at hu; rcases hu with rfl; rfl) (by decide) (by unfold maxLen; omega) (by omega) (by have := HROW.out.2.size; simp; omega) _ rfl ?_; intro gg cc W8 hown hgrow hat hlt2)
   have hB8 := obelow (HROW.out.2.alloc HROW.out.2.size (.cells #[.int .u8 (c.toNat : Int)] 5)) (HROW.out.1.alloc (.cells #[.int .u8 (c.toNat : Int)] 5)) hgrow (by have := HROW.out.2.size; simp; omega)
   have F : Hid (W8.ownsRow w.heap.size 5 1 (.slice (some ⟨gg, 0, none⟩) (j + 1) cc) (j + 1) (bytesV ((bigL n k).take (j + 1))) ∧ Below w.heap.size w W8) := Lib.hid ⟨by
    rw [bigL_take n k j hlt, bytesV_append, show k - 1 - j = i by have := HI.out; omega, ← HC.out]
    exact hown, hB8⟩
   clear hown hgrow hat hB8
   go_wp2
   go_roundw
   case rel => exact ⟨j + 1, by have := HI.out; exact congrArg _ (by omega), by omega, F.out.1, F.out.2⟩
   case measure => simp [intOf] <;> omega
  ·have hj2 : j = k := by omega
   have hge : ¬ (0 : Int) ≤ (k : Int) - 1 - (j : Int) := by omega
   have hcv := conv_owns (P := Tryz.prog) wr 54 9 5 w.heap.size j _ ((bigL n k).take j) HROW.out.1 hub hu8 hust
   rw [hj2, List.take_of_length_le (by rw [bigL_length]; exact Nat.le_refl _)] at hcv
   have HJ := Lib.hid hj2
   clear hj2
   go_wp2
   go_ret
   exact ⟨rfl, HROW.out.2⟩

set_option maxRecDepth 100000 in
theorem rpone_any (z : Int) (c : Nat) (w : World) (hc : z % 256 = ((UInt8.ofNat c).toNat : Int)) : Calls Tryz.prog 89 #[.int .i64 z] w fun e w' => e = .returned (.string (bC [UInt8.ofNat c])) ∧ Below w.heap.size w w' := by
 generalize UInt8.ofNat c = b at hc ⊢
 have ka := heap_alloc_new w (.cells #[.int .u8 (b.toNat : Int)] 5)
 have hcv : (convert 54 9 (.slice (some ⟨w.heap.size, 0, none⟩) 1 1)).run Tryz.prog (w.alloc (.cells #[.int .u8 (b.toNat : Int)] 5)) = .ok (.string (bC [b])) (w.alloc (.cells #[.int .u8 (b.toNat : Int)] 5)) :=
  run_convert_bytes_back _ _ _ 5 ⟨w.heap.size, 0, none⟩ 1 [b] Tryz.underlying54 Tryz.underlying5 Tryz.underlying9 fun j hj => (by
   obtain rfl : j = 0 := by simpa using hj
   exact cells_lit [Value.int .u8 (b.toNat : Int)] ka rfl 0 _ rfl)
 clear ka
 go_enter Tryz.func89, Tryz.ntmps89
 go_wp2
 go_ret
 exact ⟨rfl, (Below.refl _ _).alloc (Nat.le_refl _) _⟩
theorem bC_cat (c : UInt8) (l : List UInt8) : (⟨#[c]⟩ : ByteArray) ++ bC l = bC (c :: l) := by
 rw [show (⟨#[c]⟩ : ByteArray) = bC [c] from rfl, bC_app]; rfl
theorem u64_wrapN (z : Int) : IntKind.u64.wrap z = (u64N z : Int) := by rw [IntKind.wrap_u64]; unfold u64N; omega
theorem u64N_lt (z : Int) : u64N z < 18446744073709551616 := by unfold u64N; omega
set_option maxHeartbeats 3200000 in
set_option maxRecDepth 100000 in
theorem rpnum_any (z : Int) (w : World) (h1 : -9223372036854775808 ≤ z) (h2 : z ≤ 9223372036854775807) : Calls Tryz.prog 86 #[.int .i64 z] w fun e w' => e = .returned (.string (bC (headP (numH z) (u64N z)))) ∧ Below w.heap.size w w' := by
 have hw := u64_wrapN z
 have RB := Lib.hid (fun k (hk : k ≤ 8) wx => rpbig_any (u64N z) k wx hk (u64N_lt z))
 have CAT : Hid (∀ k, k ≤ 8 → ¬ 9223372036854775807 < 1 + (bC (bigL (u64N z) k)).size) := Lib.hid fun k hk => by rw [bC_size, bigL_length]; omega
 by_cases a : -32 ≤ z ∧ z < 128
 ·have hx : numH z = (u64N z % 256, 0) := by unfold numH; rw [if_pos a]
  have RO := Lib.hid (fun wx => rpone_any z (u64N z % 256) wx (by rw [UInt8.toNat_ofNat']; unfold u64N; omega))
  obtain ⟨a1, a2⟩ := a
  rw [hx]
  clear hx hw RB CAT
  generalize u64N z % 256 = c at RO ⊢
  go_enter Tryz.func86, Tryz.ntmps86
  go_wp2_with (go_at_call 89; (with_reducible refine (RO.out _).mono ?_); rintro e w2 ⟨rfl, hb2⟩)
  go_ret
  exact ⟨rfl, hb2⟩
 have ha : ¬ (-32 ≤ z ∧ z < 128) := a
 by_cases p : 0 < z
 ·have a1 : -32 ≤ z := by omega
  have a2 : ¬ z < 128 := by omega
  by_cases q1 : z < 256
  ·skip
   have hx : bC (headP (numH z) (u64N z)) = ⟨#[204]⟩ ++ bC (bigL (u64N z) 1) := by
    rw [bC_cat]
    unfold numH
    rw [if_neg ha, if_pos p, if_pos q1]; rfl
   rw [hx]
   have RBk := Lib.hid (fun wx => RB.out 1 (by decide) wx)
   rw [show ((1 : Nat) : Int) = 1 from rfl] at RBk
   have hcat := CAT.out 1 (by decide)
   clear hx RB CAT ha a
   generalize u64N z = N at hw RBk hcat ⊢
   go_enter Tryz.func86, Tryz.ntmps86
   go_wp2_with (go_at_call 88; (with_reducible refine (RBk.out _).mono ?_); rintro e w2 ⟨rfl, hb2⟩)
   go_ret
   exact ⟨rfl, hb2⟩
  by_cases q2 : z < 65536
  ·skip
   have hx : bC (headP (numH z) (u64N z)) = ⟨#[205]⟩ ++ bC (bigL (u64N z) 2) := by
    rw [bC_cat]
    unfold numH
    rw [if_neg ha, if_pos p, if_neg q1, if_pos q2]; rfl
   rw [hx]
   have RBk := Lib.hid (fun wx => RB.out 2 (by decide) wx)
   rw [show ((2 : Nat) : Int) = 2 from rfl] at RBk
   have hcat := CAT.out 2 (by decide)
   clear hx RB CAT ha a
   generalize u64N z = N at hw RBk hcat ⊢
   go_enter Tryz.func86, Tryz.ntmps86
   go_wp2_with (go_at_call 88; (with_reducible refine (RBk.out _).mono ?_); rintro e w2 ⟨rfl, hb2⟩)
   go_ret
   exact ⟨rfl, hb2⟩
  by_cases q3 : z < 4294967296
  ·skip
   have hx : bC (headP (numH z) (u64N z)) = ⟨#[206]⟩ ++ bC (bigL (u64N z) 4) := by
    rw [bC_cat]
    unfold numH
    rw [if_neg ha, if_pos p, if_neg q1, if_neg q2, if_pos q3]; rfl
   rw [hx]
   have RBk := Lib.hid (fun wx => RB.out 4 (by decide) wx)
   rw [show ((4 : Nat) : Int) = 4 from rfl] at RBk
   have hcat := CAT.out 4 (by decide)
   clear hx RB CAT ha a
   generalize u64N z = N at hw RBk hcat ⊢
   go_enter Tryz.func86, Tryz.ntmps86
   go_wp2_with (go_at_call 88; (with_reducible refine (RBk.out _).mono ?_); rintro e w2 ⟨rfl, hb2⟩)
   go_ret
   exact ⟨rfl, hb2⟩
  have hx : bC (headP (numH z) (u64N z)) = ⟨#[207]⟩ ++ bC (bigL (u64N z) 8) := by
   rw [bC_cat]
   unfold numH
   rw [if_neg ha, if_pos p, if_neg q1, if_neg q2, if_neg q3]; rfl
  rw [hx]
  have RBk := Lib.hid (fun wx => RB.out 8 (by decide) wx)
  rw [show ((8 : Nat) : Int) = 8 from rfl] at RBk
  have hcat := CAT.out 8 (by decide)
  clear hx RB CAT ha a
  generalize u64N z = N at hw RBk hcat ⊢
  go_enter Tryz.func86, Tryz.ntmps86
  go_wp2_with (go_at_call 88; (with_reducible refine (RBk.out _).mono ?_); rintro e w2 ⟨rfl, hb2⟩)
  go_ret
  exact ⟨rfl, hb2⟩
 ·have a1 : ¬ -32 ≤ z := by omega
  by_cases q1 : -128 ≤ z
  ·skip
   have hx : bC (headP (numH z) (u64N z)) = ⟨#[208]⟩ ++ bC (bigL (u64N z) 1) := by
    rw [bC_cat]
    unfold numH
    rw [if_neg ha, if_neg p, if_pos q1]; rfl
   rw [hx]
   have RBk := Lib.hid (fun wx => RB.out 1 (by decide) wx)
   rw [show ((1 : Nat) : Int) = 1 from rfl] at RBk
   have hcat := CAT.out 1 (by decide)
   clear hx RB CAT ha a
   generalize u64N z = N at hw RBk hcat ⊢
   go_enter Tryz.func86, Tryz.ntmps86
   go_wp2_with (go_at_call 88; (with_reducible refine (RBk.out _).mono ?_); rintro e w2 ⟨rfl, hb2⟩)
   go_ret
   exact ⟨rfl, hb2⟩
  by_cases q2 : -32768 ≤ z
  ·skip
   have hx : bC (headP (numH z) (u64N z)) = ⟨#[209]⟩ ++ bC (bigL (u64N z) 2) := by
    rw [bC_cat]
    unfold numH
    rw [if_neg ha, if_neg p, if_neg q1, if_pos q2]; rfl
   rw [hx]
   have RBk := Lib.hid (fun wx => RB.out 2 (by decide) wx)
   rw [show ((2 : Nat) : Int) = 2 from rfl] at RBk
   have hcat := CAT.out 2 (by decide)
   clear hx RB CAT ha a
   generalize u64N z = N at hw RBk hcat ⊢
   go_enter Tryz.func86, Tryz.ntmps86
   go_wp2_with (go_at_call 88; (with_reducible refine (RBk.out _).mono ?_); rintro e w2 ⟨rfl, hb2⟩)
   go_ret
   exact ⟨rfl, hb2⟩
  by_cases q3 : -2147483648 ≤ z
  ·skip
   have hx : bC (headP (numH z) (u64N z)) = ⟨#[210]⟩ ++ bC (bigL (u64N z) 4) := by
    rw [bC_cat]
    unfold numH
    rw [if_neg ha, if_neg p, if_neg q1, if_neg q2, if_pos q3]; rfl
   rw [hx]
   have RBk := Lib.hid (fun wx => RB.out 4 (by decide) wx)
   rw [show ((4 : Nat) : Int) = 4 from rfl] at RBk
   have hcat := CAT.out 4 (by decide)
   clear hx RB CAT ha a
   generalize u64N z = N at hw RBk hcat ⊢
   go_enter Tryz.func86, Tryz.ntmps86
   go_wp2_with (go_at_call 88; (with_reducible refine (RBk.out _).mono ?_); rintro e w2 ⟨rfl, hb2⟩)
   go_ret
   exact ⟨rfl, hb2⟩
  have hx : bC (headP (numH z) (u64N z)) = ⟨#[211]⟩ ++ bC (bigL (u64N z) 8) := by
   rw [bC_cat]
   unfold numH
   rw [if_neg ha, if_neg p, if_neg q1, if_neg q2, if_neg q3]; rfl
  rw [hx]
  have RBk := Lib.hid (fun wx => RB.out 8 (by decide) wx)
  rw [show ((8 : Nat) : Int) = 8 from rfl] at RBk
  have hcat := CAT.out 8 (by decide)
  clear hx RB CAT ha a
  generalize u64N z = N at hw RBk hcat ⊢
  go_enter Tryz.func86, Tryz.ntmps86
  go_wp2_with (go_at_call 88; (with_reducible refine (RBk.out _).mono ?_); rintro e w2 ⟨rfl, hb2⟩)
  go_ret
  exact ⟨rfl, hb2⟩
theorem pText_bC (s : ByteArray) : bC (pText s) = bC (headP (txtH s.size) s.size) ++ s := by
 unfold pText
 rw [← bC_app, bC_of]
set_option maxHeartbeats 3200000 in
set_option maxRecDepth 100000 in
theorem rptext_any (s : ByteArray) (w : World) (hs : s.size ≤ 65536) : Calls Tryz.prog 87 #[.string s] w fun e w' => e = .returned (.string (bC (pText s))) ∧ Below w.heap.size w w' := by
 rw [pText_bC]
 have hw : IntKind.u64.wrap (s.size : Int) = (s.size : Int) := by rw [IntKind.wrap_u64]; omega
 have RB := Lib.hid (fun k (hk : k ≤ 8) wx => rpbig_any s.size k wx hk (by omega))
 have CAT : Hid (∀ k, k ≤ 8 → ¬ 9223372036854775807 < 1 + (bC (bigL s.size k)).size ∧ ∀ c : UInt8, ¬ 9223372036854775807 < ((⟨#[c]⟩ : ByteArray) ++ bC (bigL s.size k)).size + s.size) := Lib.hid fun k hk => by
  refine ⟨by rw [bC_size, bigL_length]; omega, fun c => ?_⟩
  rw [ByteArray.size_append, bC_size, bigL_length]; show ¬ 9223372036854775807 < 1 + k + s.size; omega
 by_cases q0 : s.size < 32
 ·have q0' : (s.size : Int) < 32 := by omega
  have hx : bC (headP (txtH s.size) s.size) = bC [UInt8.ofNat (160 + s.size)] := by unfold txtH; rw [if_pos q0]; rfl
  rw [hx]
  have RO := Lib.hid (fun wx => rpone_any (160 + (s.size : Int)) (160 + s.size) wx (by rw [UInt8.toNat_ofNat']; omega))
  have hcat : ∀ c : UInt8, ¬ 9223372036854775807 < (bC [c]).size + s.size := fun c => by rw [bC_size]; simp; omega
  have hcat2 := hcat (UInt8.ofNat (160 + s.size))
  clear hx RB CAT hw hcat
  generalize UInt8.ofNat (160 + s.size) = c at RO hcat2 ⊢
  go_enter Tryz.func87, Tryz.ntmps87
  go_wp2_with (go_at_call 89; (with_reducible refine (RO.out _).mono ?_); rintro e w2 ⟨rfl, hb2⟩)
  go_ret
  exact ⟨rfl, hb2⟩
 have q0' : ¬ (s.size : Int) < 32 := by omega
 by_cases q1 : s.size < 256
 ·have q1' : (s.size : Int) < 256 := by omega
  have hx : bC (headP (txtH s.size) s.size) = ⟨#[217]⟩ ++ bC (bigL s.size 1) := by
   rw [bC_cat]
   unfold txtH
   rw [if_neg q0, if_pos q1]; rfl
  rw [hx]
  have RBk := Lib.hid (fun wx => RB.out 1 (by decide) wx)
  rw [show ((1 : Nat) : Int) = 1 from rfl] at RBk
  have hcat := (CAT.out 1 (by decide)).1
  have hcat2 := (CAT.out 1 (by decide)).2 217
  clear hx RB CAT
  go_enter Tryz.func87, Tryz.ntmps87
  go_wp2_with (go_at_call 88; (with_reducible refine (RBk.out _).mono ?_); rintro e w2 ⟨rfl, hb2⟩)
  go_ret
  exact ⟨rfl, hb2⟩
 have q1' : ¬ (s.size : Int) < 256 := by omega
 by_cases q2 : s.size < 65536
 ·have q2' : (s.size : Int) < 65536 := by omega
  have hx : bC (headP (txtH s.size) s.size) = ⟨#[218]⟩ ++ bC (bigL s.size 2) := by
   rw [bC_cat]
   unfold txtH
   rw [if_neg q0, if_neg q1, if_pos q2]; rfl
  rw [hx]
  have RBk := Lib.hid (fun wx => RB.out 2 (by decide) wx)
  rw [show ((2 : Nat) : Int) = 2 from rfl] at RBk
  have hcat := (CAT.out 2 (by decide)).1
  have hcat2 := (CAT.out 2 (by decide)).2 218
  clear hx RB CAT
  go_enter Tryz.func87, Tryz.ntmps87
  go_wp2_with (go_at_call 88; (with_reducible refine (RBk.out _).mono ?_); rintro e w2 ⟨rfl, hb2⟩)
  go_ret
  exact ⟨rfl, hb2⟩
 have q2' : ¬ (s.size : Int) < 65536 := by omega
 have hx : bC (headP (txtH s.size) s.size) = ⟨#[219]⟩ ++ bC (bigL s.size 4) := by
  rw [bC_cat]
  unfold txtH
  rw [if_neg q0, if_neg q1, if_neg q2]; rfl
 rw [hx]
 have RBk := Lib.hid (fun wx => RB.out 4 (by decide) wx)
 rw [show ((4 : Nat) : Int) = 4 from rfl] at RBk
 have hcat := (CAT.out 4 (by decide)).1
 have hcat2 := (CAT.out 4 (by decide)).2 219
 clear hx RB CAT
 go_enter Tryz.func87, Tryz.ntmps87
 go_wp2_with (go_at_call 88; (with_reducible refine (RBk.out _).mono ?_); rintro e w2 ⟨rfl, hb2⟩)
 go_ret
 exact ⟨rfl, hb2⟩
end Go.Proofs.YtmlmdidaldcoiaaGreatDoor
