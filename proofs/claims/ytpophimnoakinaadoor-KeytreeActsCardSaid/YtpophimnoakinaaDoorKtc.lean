/- The program's key as a text, and Sign. -/
import Derived.Test.YtpophimnoakinaaDoorKtb
namespace Go.Proofs.YtpophimnoakinaaDoor
open Go.ChangeShapes Go.WideShapes Go.ChangeAt Go.RowKit
set_option linter.unusedVariables false
set_option linter.unusedSimpArgs false

set_option maxRecDepth 100000 in
theorem key12_any (seed : ByteArray) (w : World) (hs : seed.size ≤ 999990) (hK : Ktab w) : Calls Tryd.prog 12 #[.string seed] w fun e w' => e = .returned (.string (keyB seed)) ∧ Below w.heap.size w w' := by
  have A1 := Lib.hid (public12_any seed w hs hK.st)
  have hz := pkB_size seed
  rw [← keyB_of]
  generalize pkB seed = p at A1 hz ⊢
  have A2 := Lib.hid (fun (wx : World) (h : Ktab wx) => ymake_any 2 p wx (by unfold maxLen; omega) h.lay)
  generalize primS 2 p = r at A2 ⊢
  have HK := Lib.hid hK
  clear hz hK
  go_enter Tryd.func12, Tryd.ntmps12
  go_wp2_with (first
    | (go_at_call 10; (with_reducible refine A1.out.mono ?_); rintro e w1 ⟨rfl, hb1⟩)
    | (go_at_call 33; (with_reducible refine (A2.out _ (HK.out.below hb1)).mono ?_); rintro e w2 ⟨rfl, hb2⟩))
  go_ret
  exact ⟨rfl, hb1.trans (hb2.mono hb1.size)⟩
set_option maxRecDepth 100000 in
theorem witness12_any (seed : ByteArray) (w : World) (hs : seed.size ≤ 999990) (hK : Ktab w) : Calls Tryd.prog 14 #[.string seed] w fun e w' => e = .returned (.string (witB seed)) ∧ Below w.heap.size w w' := by
  have A1 := Lib.hid (public12_any seed w hs hK.st)
  have hz := pkB_size seed
  rw [← witB_of]
  generalize pkB seed = p at A1 hz ⊢
  have A2 := Lib.hid (fun (wx : World) (h : Ktab wx) => ymake_any 3 p wx (by unfold maxLen; omega) h.lay)
  generalize primS 3 p = r at A2 ⊢
  have HK := Lib.hid hK
  clear hz hK
  go_enter Tryd.func14, Tryd.ntmps14
  go_wp2_with (first
    | (go_at_call 10; (with_reducible refine A1.out.mono ?_); rintro e w1 ⟨rfl, hb1⟩)
    | (go_at_call 33; (with_reducible refine (A2.out _ (HK.out.below hb1)).mono ?_); rintro e w2 ⟨rfl, hb2⟩))
  go_ret
  exact ⟨rfl, hb1.trans (hb2.mono hb1.size)⟩
theorem bls_byte (b : Nat) (l : ByteArray) (c : Int) (hc : 0 ≤ c ∧ c < 256) (w : World) (h : Bls w b l) (hlen : l.size + 1 ≤ 140737488355328) : Calls Tryd.prog 35 #[.pointer (some ⟨b, 0, none⟩), .int .u8 c] w fun e w' => e = .returned .nilIface ∧ Bls w' b (l ++ oneB c) ∧ Below b w w' ∧ Lib.OthersKept 5 (some b) w w' := by
  refine (Any.Builder_WriteByte_k lays167 bextra b b (Lib.byteCells l.data.toList) c w h (by simpa [Lib.byteCells] using hlen) (Nat.le_of_lt h.lt)).mono ?_
  rintro e w' ⟨rfl, h2, h3, h4⟩
  have e1 : Lib.byteCells (l ++ oneB c).data.toList = Lib.byteCells l.data.toList ++ [.int .u8 c] := by
    rw [ByteArray.data_append, Array.toList_append, Lib.byteCells_append]
    congr 1
    show [Value.int .u8 ((byteI c).toNat : Int)] = _
    rw [byteI_val, show c % 256 = c by omega]
  rw [← e1] at h2
  exact ⟨rfl, .inr h2, h3, h4⟩
theorem Arr.others {w w' : World} {g T e b : Nat} {xs : List Value} (h : Arr w g T xs) (hk : Lib.OthersKept e (some b) w w') (hg : g ≠ b) (hT : T ≠ e) : Arr w' g T xs :=
  hk g _ h (by simpa using hg) (fun c fz he => hT (by cases he; rfl))
theorem pl_walk (u k : Nat) (hu : u < 8) (hk : k < 3) : bsN ((8 + u) / 2 ^ k) = 8 / 2 ^ k + besN u k ∧ 1 < (8 + u) / 2 ^ k ∧ bsN ((8 + u) / 2 ^ k) < 16 ∧ 1 ≤ bsN ((8 + u) / 2 ^ k) := by
  have : ∀ u : Fin 8, ∀ k : Fin 3, bsN ((8 + u.1) / 2 ^ k.1) = 8 / 2 ^ k.1 + besN u.1 k.1 ∧ 1 < (8 + u.1) / 2 ^ k.1 ∧ bsN ((8 + u.1) / 2 ^ k.1) < 16 ∧ 1 ≤ bsN ((8 + u.1) / 2 ^ k.1) := by decide
  exact this ⟨u, hu⟩ ⟨k, hk⟩
theorem pl_half (u k : Nat) : (8 + u) / 2 ^ k / 2 = (8 + u) / 2 ^ (k + 1) := by rw [Nat.pow_succ, Nat.div_div_eq_div_mul]
theorem pl_small (u k : Nat) (hu : u < 8) : (8 + u) / 2 ^ k < 16 := Nat.lt_of_le_of_lt (Nat.div_le_self _ _) (by omega)
theorem pl_end (u : Nat) (hu : u < 8) : (8 + u) / 2 ^ 3 = 1 := by omega
set_option maxRecDepth 100000 in
theorem sign12_no (seed m : ByteArray) (u : Int) (w : World) (hu : u < 0 ∨ 8 ≤ u) : Calls Tryd.prog 17 #[.string seed, .int .i64 u, .string m] w fun e w' => e = .returned (.tuple #[.string ⟨#[]⟩, .int .i64 25]) ∧ Below w.heap.size w w' := by
  by_cases h0 : u < 0
  · go_enter Tryd.func17, Tryd.ntmps17
    go_wp2
    go_ret2
    exact ⟨rfl, Below.refl _ _⟩
  · have h8 : 8 ≤ u := by omega
    go_enter Tryd.func17, Tryd.ntmps17
    go_wp2
    go_ret2
    exact ⟨rfl, Below.refl _ _⟩
set_option maxHeartbeats 1600000 in
set_option maxRecDepth 100000 in
theorem sign12_ok (seed m : ByteArray) (u : Nat) (w : World) (hs : seed.size ≤ 999990) (hm : m.size ≤ 999990) (hu : u < 8) (hT : STab w) : Calls Tryd.prog 17 #[.string seed, .int .i64 u, .string m] w fun e w' => e = .returned (.tuple #[.string (sgB seed u m), .int .i64 0]) ∧ Below w.heap.size w w' := by
  have US := Lib.hid (fun (wx : World) (h : STab wx) => useSeed_any seed u wx hs h)
  have SG := Lib.hid (fun (wx : World) (h : STab wx) => sign_b (useB seed u) m wx (by rw [useB_size]; decide) hm h)
  have GR := Lib.hid (fun (wx : World) (h : STab wx) => grow_any seed wx hs h)
  have hz := signB_size (useB seed u) m
  obtain ⟨S, hS⟩ : ∃ S : Nat → ByteArray, S = sgP seed u m := ⟨_, rfl⟩
  obtain ⟨P, hP⟩ : ∃ P : Nat → Nat, P = fun k => (8 + u) / 2 ^ k := ⟨_, rfl⟩
  have HS : Hid (∀ k, k < 3 → S k ++ plB seed (bsN (P k)) = S (k + 1)) := Lib.hid (by
    intro k hk
    rw [hS, hP]
    show _ ++ plB seed (bsN ((8 + u) / 2 ^ k)) = _
    rw [(pl_walk u k hu hk).1, plB_bes seed u k hu hk]; rfl)
  have P0 : Hid ((8 : Int) + (u : Int) = ((P 0 : Nat) : Int)) := Lib.hid (by rw [hP]; simp)
  have P3 : Hid (P 3 = 1) := Lib.hid (by rw [hP]; exact pl_end u hu)
  have PH : Hid (∀ k, P k / 2 = P (k + 1)) := Lib.hid (fun k => by rw [hP]; exact pl_half u k)
  have PW : Hid (∀ k, k < 3 → 1 < P k ∧ bsN (P k) < 16 ∧ 1 ≤ bsN (P k) ∧ P k < 16) := Lib.hid (fun k hk => by rw [hP]; exact ⟨(pl_walk u k hu hk).2.1, (pl_walk u k hu hk).2.2.1, (pl_walk u k hu hk).2.2.2, pl_small u k hu⟩)
  clear hP
  have S0 : Hid (ByteArray.empty ++ oneB u ++ signB (useB seed u) m = S 0) := Lib.hid (by rw [hS, ByteArray.empty_append]; rfl)
  rw [← sgP_three, ← hS]
  have SZ : Hid (∀ k, (S k).size = 577 + 16 * k) := Lib.hid (by rw [hS]; exact sgP_size seed u m)
  clear hS
  obtain ⟨q, hq⟩ : ∃ t, t = useB seed u := ⟨_, rfl⟩
  rw [← hq] at US SG hz S0
  obtain ⟨s, hse⟩ : ∃ t, t = signB q m := ⟨_, rfl⟩
  rw [← hse] at SG hz S0
  clear hq hse
  have hu0 : ¬ ((u : Int) < 0) := by omega
  have hu8 : ¬ ((8 : Int) ≤ (u : Int)) := by omega
  have hum : (u : Int) % 256 = (u : Int) := by omega
  have b0 := (Below.refl w.heap.size w).alloc (o := .cells #[.pointer none, .slice none 0 0] 45) (Nat.le_refl _)
  have n0 := Lib.hid (Bls.new w)
  have HT := Lib.hid hT
  have WB := Lib.hid (bls_byte w.heap.size ByteArray.empty (u : Int) (by omega) _ n0.out (by decide))
  have HZ := Lib.hid hz
  have O1 : Hid ((ByteArray.empty ++ oneB (u : Int)).size = 1) := Lib.hid (by rw [ByteArray.size_append]; rfl)
  have WS := Lib.hid (fun (wx : World) (l x : ByteArray) (h : Bls wx w.heap.size l) (hx : l.size + x.size ≤ 2000) => bls_write w.heap.size l x wx h (by omega))
  clear hT hz
  go_enter Tryd.func17, Tryd.ntmps17
  go_wp2_with (first
    | (go_at_call 35; (with_reducible refine WB.out.mono ?_); rintro e w1 ⟨rfl, hB1, hb1, -⟩; have b1 := b0.trans hb1)
    | (go_at_call 27; (with_reducible refine (US.out _ (HT.out.below b1)).mono ?_); rintro e w2 ⟨rfl, hb2⟩; have hB2 := hB1.go hb2; have b2 := b1.trans (hb2.mono b1.size))
    | (go_at_call 37; (with_reducible refine (SG.out _ (HT.out.below b2)).mono ?_); rintro e w3 ⟨rfl, hb3⟩; have hB3 := hB2.go hb3; have b3 := b2.trans (hb3.mono b2.size))
    | (go_at_call 36; (with_reducible refine (WS.out _ _ _ hB3 (by rw [O1.out, HZ.out]; decide)).mono ?_); rintro e w4 ⟨rfl, hB4, hb4, -⟩; rw [S0.out] at hB4; have b4 := b3.trans hb4)
    | (go_at_call 31; (with_reducible refine (GR.out _ (HT.out.below b4)).mono ?_); rintro e w5 ⟨rfl, hb5⟩; have hB5 := hB4.go hb5; have b5 := b4.trans (hb5.mono b4.size))
    | (refine wp_st rfl 38 (.tmp 9) (.tmp 27) rfl _ (grS seed 1 16) rfl rfl (Arr.new w5 z16 38) Tryd.infoarr (by rfl) (grS_length _ _ _) grS_one ?_))
  have hA := (Arr.new w5 z16 38).setRow (grS seed 1 16)
  have b6 := below_setRow ((Below.refl w5.heap.size w5).alloc (o := .cells z16.toArray 38) (Nat.le_refl _)) w5.heap.size (Nat.le_refl _) (grS seed 1 16).toArray
  have hB6 := hB5.go b6
  have b6w := b5.trans (b6.mono b5.size)
  have HG := Lib.hid hB5.lt
  rw [P0.out]
  clear hB1 hB2 hB3 hB4 hB5 hb1 hb2 hb3 hb4 hb5 b1 b2 b3 b4 b5 b6 b0 hu0 hu8 hum
  go_loopw [10] (fun i wr => ∃ j : Nat, j ≤ 3 ∧ i = .int .i64 (P j) ∧ Bls wr w.heap.size (S j) ∧ Arr wr w5.heap.size 38 (grS seed 1 16) ∧ Below w.heap.size w wr) (fun i _ => (intOf i).toNat)
  case atStart => exact ⟨0, by omega, rfl, hB6, hA, b6w⟩
  case round =>
    clear hB6 hA b6w
    obtain ⟨j, hj, rfl, hB, hA, hb⟩ := hrel
    have hbs := hb.size
    by_cases hlt : j < 3
    · obtain ⟨p1, p2, p3, p4⟩ := PW.out j hlt
      have hst := HS.out j hlt
      have hhf := PH.out j
      have hsz := SZ.out j
      have cg := hA.cellAt (grS_get seed 1 16 (bsN (P j)) p3 p2 p2)
      have hps := plB_size seed (bsN (P j))
      have BE := Lib.hid (fun (wx : World) => beside_any (P j) wx p4)
      have AB := Lib.hid (fun (wx : World) => above_any (P j) wx (by omega))
      rw [hhf] at AB
      obtain ⟨p, hp⟩ : ∃ p, p = P j := ⟨_, rfl⟩
      obtain ⟨p', hp'⟩ : ∃ p', p' = P (j + 1) := ⟨_, rfl⟩
      obtain ⟨x, hx⟩ : ∃ x, x = plB seed (bsN (P j)) := ⟨_, rfl⟩
      rw [← hx] at cg hps hst
      rw [← hp] at cg p1 p2 BE AB hhf ⊢
      rw [← hp'] at AB hhf
      obtain ⟨b, hb'⟩ : ∃ b, b = bsN p := ⟨_, rfl⟩
      rw [← hb'] at BE cg p2
      have p1i : (1 : Int) < (p : Int) := by omega
      have p2i : (b : Int) < 16 := by omega
      have HST := Lib.hid hst
      have HHF : Hid (p' < p) := Lib.hid (by omega)
      have HP' := Lib.hid hp'
      clear hst hhf hp hp' hx hb' p1 p3 p4
      go_wp2_with (first
        | (go_at_call 39; (with_reducible refine (BE.out _).mono ?_); rintro e w1 ⟨rfl, rfl⟩)
        | (go_at_call 36; (with_reducible refine (WS.out _ _ _ hB (by omega)).mono ?_); rintro e w4 ⟨rfl, hB4, hb4, hk4⟩; rw [HST.out] at hB4)
        | (go_at_call 38; (with_reducible refine (AB.out _).mono ?_); rintro e w1 ⟨rfl, rfl⟩))
      have hA4 := hA.others hk4 (by have := HG.out; omega) (by decide)
      exact ⟨⟨j + 1, by omega, by rw [HP'.out], hB4, hA4, hb.trans hb4⟩, by have := HHF.out; simp only [intOf]; omega⟩
    · obtain rfl : j = 3 := by omega
      have C4 := Lib.hid (bls_string w.heap.size (S 3) wr hB)
      rw [P3.out]
      go_wp2_with (go_at_call 40; (with_reducible refine C4.out.mono ?_); rintro e w1 ⟨rfl, hb1⟩)
      go_ret2
      exact ⟨rfl, hb.trans hb1⟩
end Go.Proofs.YtpophimnoakinaaDoor
