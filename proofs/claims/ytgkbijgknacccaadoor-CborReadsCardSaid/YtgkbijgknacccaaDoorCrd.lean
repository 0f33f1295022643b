/- The document's reader of the second serialisation: read, text. -/
import Derived.Test.YtgkbijgknacccaaDoorCen
import Derived.BigQuiet
import Derived.Deep.QuietTactic
import Derived.Laws.BitsAllLaws
import Derived.Lib.EndianBits
namespace Go.Proofs.YtgkbijgknacccaaDoor
open Go Go.ChangeShapes Go.WideShapes Go.ChangeAt Go.RowKit
set_option linter.unusedVariables false
set_option linter.unusedSimpArgs false

theorem cdrop_at {l : List UInt8} {p : Nat} {c : UInt8} (h : l[p]? = some c) : l.drop p = c :: l.drop (p + 1) := by
  have hp : p < l.length := lt_of_some h
  rw [List.drop_eq_getElem_cons hp]
  rw [List.getElem?_eq_getElem hp] at h
  rw [Option.some.inj h]
theorem or_low (N c : Nat) (hN : N * 256 < 18446744073709551616) (hc : c < 256) : bits BinOp.or IntKind.u64 ((N : Int) * 256) (c : Int) = ((N * 256 + c : Nat) : Int) := by
  have e : ((N : Int) * 256) = ((N * 256 : Nat) : Int) := by omega
  rw [e, u64_or_nat _ _ hN (by omega), Nat.or_comm, ← u64_or_nat _ _ (by omega) hN]
  have h := u64_or8 (y := (c : Int)) (x := ((N * 256 : Nat) : Int)) (by omega) (by omega) (by omega) (by omega) (by omega)
  rw [show bits BinOp.or IntKind.u64 (c : Int) ((N * 256 : Nat) : Int) = _ from h]
  omega
theorem and31 : ∀ c : UInt8, bits BinOp.and IntKind.u8 (c.toNat : Int) 31 = ((c.toNat % 32 : Nat) : Int) := by
  have : ∀ c : Fin 256, bits BinOp.and IntKind.u8 (c.1 : Int) 31 = ((c.1 % 32 : Nat) : Int) := by decide +kernel
  exact fun c => this ⟨c.toNat, c.toNat_lt⟩
theorem bigV_snoc (l : List UInt8) (c : UInt8) : bigV (l ++ [c]) = bigV l * 256 + c.toNat := by unfold bigV; rw [List.foldl_append]; rfl
theorem bigV_lt : ∀ l : List UInt8, bigV l < 256 ^ l.length
  | [] => by simp [bigV]
  | c :: t => by
    have h1 := bigV_lt t
    have h2 := c.toNat_lt
    rw [bigV_cons, List.length_cons, Nat.pow_succ]
    have h3 : c.toNat * 256 ^ t.length ≤ 255 * 256 ^ t.length := Nat.mul_le_mul_right _ (by omega)
    omega
/-- What a head says. -/
def HeadAt (l : List UInt8) (p : Nat) (m n : Nat) (q : Int) : Prop := ∀ M N t, M < 8 → N < 18446744073709551616 → l.drop p = headL M N ++ t → m = M ∧ n = N ∧ 0 ≤ q ∧ t = l.drop q.toNat
theorem headV_cases {N : Nat} (h : N < 18446744073709551616) : (headV N < 24 ∧ headK N = 0 ∧ N = headV N) ∨ (24 ≤ headV N ∧ headV N ≤ 27 ∧ headK N = 2 ^ (headV N - 24) ∧ N < 256 ^ headK N) := by
  unfold headV headK
  (repeat' split) <;> first
    | (left; omega)
    | (right; refine ⟨by decide, by decide, by decide, ?_⟩; simp only [Nat.reducePow]; omega)
theorem head_first {l : List UInt8} {p : Nat} {c : UInt8} (hc : l[p]? = some c) {M N : Nat} {t : List UInt8} (hM : M < 8) (h : l.drop p = headL M N ++ t) : c.toNat / 32 = M ∧ c.toNat % 32 = headV N ∧ l.drop (p + 1) = bigL N (headK N) ++ t := by
  rw [cdrop_at hc] at h
  unfold headL at h
  rw [List.cons_append] at h
  obtain ⟨h1, h2⟩ := List.cons.inj h
  have h3 := congrArg UInt8.toNat h1
  rw [UInt8.toNat_ofNat'] at h3
  have := headV_lt N
  exact ⟨by omega, by omega, h2⟩
def RdPost (s : ByteArray) (p : Nat) (w : World) (e : Ending) (w' : World) : Prop := ∃ (m n : Nat) (q : Int), e = .returned (.tuple #[.int .i64 (m : Int), .int .u64 (n : Int), .int .i64 q]) ∧ Below w.heap.size w w' ∧ m < 8 ∧ n < 18446744073709551616 ∧ (q = -1 ∨ ((p : Int) < q ∧ q ≤ (s.size : Int))) ∧ HeadAt s.data.toList p m n q
set_option maxHeartbeats 3200000 in
set_option maxRecDepth 100000 in
theorem rread_any (s : ByteArray) (p : Nat) (w : World) (hp : p ≤ s.size) (hs : s.size ≤ 1000000) : Calls Tryd.prog 44 #[.string s, .int .i64 (p : Int)] w (RdPost s p w) := by
  obtain ⟨l, hl⟩ : ∃ l, l = s.data.toList := ⟨_, rfl⟩
  have hsz : l.length = s.size := by rw [hl, Array.length_toList]; rfl
  have HSZ := Lib.hid hsz
  have HL := Lib.hid hl
  have HGET : Hid (∀ (p : Nat) (h : p < s.size), l[p]? = some (s[p]'h)) := Lib.hid fun p h => by rw [hl, List.getElem?_eq_getElem (by rw [Array.length_toList]; exact h)]; rfl
  have hsi : (s.size : Int) ≤ 1000000 := by omega
  have hpz : (0 : Int) ≤ (p : Int) := by omega
  have hpd : decide ((p : Int) < 0) = false := decide_eq_false (by omega)
  clear hsz
  by_cases hpn : p < s.size
  · have hpj : (p : Int) < (s.size : Int) := by omega
    have hpj2 : ¬ (s.size : Int) ≤ (p : Int) := by omega
    have gc := HGET.out p hpn
    obtain ⟨c, hcc⟩ : ∃ c, c = s[p]'hpn := ⟨_, rfl⟩
    rw [← hcc] at gc
    have hc' := hcc.symm
    have ha := and31 c
    obtain ⟨v, hv⟩ : ∃ v, v = c.toNat % 32 := ⟨_, rfl⟩
    obtain ⟨m, hm⟩ : ∃ m, m = c.toNat / 32 := ⟨_, rfl⟩
    rw [← hv] at ha
    have hmi : (c.toNat : Int) / 32 = (m : Int) := by omega
    have hm8 : m < 8 := by have := c.toNat_lt; omega
    have hv32 : v < 32 := by omega
    have HF : Hid (∀ M N t, M < 8 → N < 18446744073709551616 → l.drop p = headL M N ++ t → m = M ∧ v = headV N ∧ l.drop (p + 1) = bigL N (headK N) ++ t) := Lib.hid fun M N t hM hN h => by
      obtain ⟨h1, h2, h3⟩ := head_first gc hM h
      exact ⟨hm.trans h1, hv.trans h2, h3⟩
    clear hcc gc hv hm
    by_cases h24 : v < 24
    · have h24' : (v : Int) < 24 := by omega
      have hw3 : IntKind.i64.wrap ((p : Int) + 1) = (p : Int) + 1 := IntWalk.i64_in _ (by omega)
      have hfin : HeadAt l p m v ((p : Int) + 1) := fun M N t hM hN h => by
        obtain ⟨h1, h2, h3⟩ := HF.out M N t hM hN h
        rcases headV_cases hN with ⟨h4, h5, h6⟩ | ⟨h4, -, -, -⟩
        · rw [h5] at h3
          exact ⟨h1, by omega, by omega, by rw [show ((p : Int) + 1).toNat = p + 1 by omega, h3]; rfl⟩
        · omega
      have HFN := Lib.hid hfin
      clear hfin
      go_enter Tryd.func44, Tryd.ntmps44
      go_wp2
      go_quiet (fail)
      go_wp2
      go_ret3
      exact ⟨m, v, (p : Int) + 1, rfl, bdrewN (Below.refl _ _) _, hm8, by omega, .inr ⟨by omega, by omega⟩, by rw [← HL.out]; exact HFN.out⟩
    · have h24' : ¬ (v : Int) < 24 := by omega
      by_cases h27 : 27 < v
      · have h27' : (27 : Int) < (v : Int) := by omega
        have hno : HeadAt l p 0 0 (-1) := fun M N t hM hN h => by
          obtain ⟨-, h2, h3⟩ := HF.out M N t hM hN h
          rcases headV_cases hN with ⟨h4, -, -⟩ | ⟨-, h5, -, -⟩ <;> omega
        have HNO := Lib.hid hno
        clear hno
        go_enter Tryd.func44, Tryd.ntmps44
        go_wp2
        go_quiet (fail)
        go_wp2
        go_ret3
        exact ⟨0, 0, -1, rfl, bdrewN (Below.refl _ _) _, by decide, by decide, .inl rfl, by rw [← HL.out]; exact HNO.out⟩
      · have h27' : ¬ (27 : Int) < (v : Int) := by omega
        have hv4 : v = 24 ∨ v = 25 ∨ v = 26 ∨ v = 27 := by omega
        rcases hv4 with hvv | hvv | hvv | hvv
        · go_enter Tryd.func44, Tryd.ntmps44
          go_wp2
          go_quiet (fail)
          have HVK : Hid (v = 24) := Lib.hid hvv
          subst hvv
          by_cases hlen : (s.size : Int) - (p : Int) - 1 < 1
          · have hno : HeadAt l p 0 0 (-1) := fun M N t hM hN h => by
              obtain ⟨-, h2, h3⟩ := HF.out M N t hM hN h
              rcases headV_cases hN with ⟨h4, -, -⟩ | ⟨-, -, h5, -⟩
              · omega
              · rw [← h2, show (2 : Nat) ^ (24 - 24) = 1 by decide] at h5
                have h6 := congrArg List.length h3
                rw [List.length_drop, List.length_append, bigL_length, h5] at h6
                have := HSZ.out
                omega
            have HNO := Lib.hid hno
            clear hno
            go_wp2
            go_ret3
            exact ⟨0, 0, -1, rfl, bdrewN (Below.refl _ _) _, by decide, by decide, .inl rfl, by rw [← HL.out]; exact HNO.out⟩
          · have hlk : p + 1 + 1 ≤ s.size := by omega
            go_upto_region 13 with fail
            go_loopw [10, 51] (fun vn vi wr => ∃ (j : Nat) (N : Int), vi = .int .i64 j ∧ j ≤ 1 ∧ vn = .int .u64 N ∧ N = (bigV ((l.drop (p + 1)).take j) : Int) ∧ Below w.heap.size w wr) (fun _ vi _ => 1 - (intOf vi).toNat)
            case atStart => exact ⟨0, 0, rfl, by decide, rfl, by simp [bigV], bdrewN (Below.refl _ _) _⟩
            case round =>
              obtain ⟨j, N, rfl, hj, rfl, hN, hB⟩ := hrel
              have HB := Lib.hid hB
              by_cases hjk : j < 1
              · have hjk' : (j : Int) < 1 := by omega
                have hj0 : (0 : Int) ≤ (j : Int) := by omega
                obtain ⟨pj, hpj'⟩ : ∃ pj, pj = p + 1 + j := ⟨_, rfl⟩
                have hpjn : pj < s.size := by omega
                have hpji : (pj : Int) < (s.size : Int) := by omega
                have hpjz : (0 : Int) ≤ (pj : Int) := by omega
                obtain ⟨p1, hp1⟩ : ∃ p1, p1 = p + 1 := ⟨_, rfl⟩
                have e1 : (p : Int) + 1 = (p1 : Int) := by omega
                have e2 : (p1 : Int) + (j : Int) = (pj : Int) := by omega
                have gj := HGET.out pj hpjn
                obtain ⟨cj, hcj⟩ : ∃ cj, cj = s[pj]'hpjn := ⟨_, rfl⟩
                rw [← hcj] at gj
                have hcj' := hcj.symm
                have hb1 := bigV_lt ((l.drop (p + 1)).take j)
                have hlj : ((l.drop (p + 1)).take j).length = j := by rw [List.length_take, List.length_drop]; have := HSZ.out; omega
                rw [hlj] at hb1
                have hb2 : (256 : Nat) ^ j ≤ 256 ^ 7 := Nat.pow_le_pow_right (by decide) (by omega)
                have h7 : (256 : Nat) ^ 7 = 72057594037927936 := by decide
                have hw0 : IntKind.u64.wrap (cj.toNat : Int) = (cj.toNat : Int) := by rw [IntKind.wrap_u64]; have := cj.toNat_lt; omega
                have hw1 : IntKind.u64.wrap (N * 256) = N * 256 := by rw [IntKind.wrap_u64]; omega
                have hw2 : bits BinOp.or IntKind.u64 (N * 256) (cj.toNat : Int) = (bigV ((l.drop (p + 1)).take (j + 1)) : Int) := by
                  rw [hN, or_low _ _ (by omega) cj.toNat_lt, List.take_add_one, List.getElem?_drop, ← hpj', gj]
                  show _ = ((bigV (_ ++ [cj]) : Nat) : Int)
                  rw [bigV_snoc]
                obtain ⟨N2, hN2⟩ : ∃ N2 : Int, N2 = (bigV ((l.drop (p + 1)).take (j + 1)) : Int) := ⟨_, rfl⟩
                rw [← hN2] at hw2
                have HN2 := Lib.hid hN2
                have HP := Lib.hid (And.intro hpj' hp1)
                clear hb1 hlj hb2 h7 hN hN2 gj hcj hB hpj' hp1
                go_wp2
                go_roundw
                case rel => exact ⟨j + 1, N2, by go_num, by omega, rfl, HN2.out, HB.out⟩
                case measure => simp [intOf] <;> omega
              · have hjk' : ¬ (j : Int) < 1 := by omega
                have hje : j = 1 := by omega
                have hfin : HeadAt l p m (bigV ((l.drop (p + 1)).take 1)) ((p : Int) + 1 + 1) := fun M N' t hM hN' h => by
                  obtain ⟨h1, h2, h3⟩ := HF.out M N' t hM hN' h
                  rcases headV_cases hN' with ⟨h4, -, -⟩ | ⟨-, -, h5, h6⟩
                  · omega
                  · rw [← h2, show (2 : Nat) ^ (24 - 24) = 1 by decide] at h5
                    rw [h5] at h3 h6
                    have h7 : (bigL N' 1).length = 1 := bigL_length _ _
                    refine ⟨h1, ?_, by omega, ?_⟩
                    · rw [h3, List.take_left' h7, bigL_back h6]
                    · rw [show ((p : Int) + 1 + 1).toNat = p + 1 + 1 by omega, ← List.drop_drop, h3, List.drop_left' h7]
                have hbv : bigV ((l.drop (p + 1)).take 1) < 18446744073709551616 := by
                  have h1 := bigV_lt ((l.drop (p + 1)).take 1)
                  have h2 : ((l.drop (p + 1)).take 1).length ≤ 8 := by rw [List.length_take]; omega
                  have h3 : (256 : Nat) ^ ((l.drop (p + 1)).take 1).length ≤ 256 ^ 8 := Nat.pow_le_pow_right (by decide) h2
                  have h8 : (256 : Nat) ^ 8 = 18446744073709551616 := by decide
                  omega
                rw [hje] at hN
                have HFN := Lib.hid (And.intro hN (And.intro hfin hbv))
                have hw4 : IntKind.i64.wrap ((p : Int) + 1 + 1) = (p : Int) + 1 + 1 := IntWalk.i64_in _ (by omega)
                clear hN hfin hbv hje hB
                go_wp2
                go_ret3
                exact ⟨m, bigV ((l.drop (p + 1)).take 1), (p : Int) + 1 + 1, by rw [← HFN.out.1]; rfl, HB.out, hm8, HFN.out.2.2, .inr ⟨by omega, by omega⟩, by rw [← HL.out]; exact HFN.out.2.1⟩
        · go_enter Tryd.func44, Tryd.ntmps44
          go_wp2
          go_quiet (fail)
          have HVK : Hid (v = 25) := Lib.hid hvv
          subst hvv
          by_cases hlen : (s.size : Int) - (p : Int) - 1 < 2
          · have hno : HeadAt l p 0 0 (-1) := fun M N t hM hN h => by
              obtain ⟨-, h2, h3⟩ := HF.out M N t hM hN h
              rcases headV_cases hN with ⟨h4, -, -⟩ | ⟨-, -, h5, -⟩
              · omega
              · rw [← h2, show (2 : Nat) ^ (25 - 24) = 2 by decide] at h5
                have h6 := congrArg List.length h3
                rw [List.length_drop, List.length_append, bigL_length, h5] at h6
                have := HSZ.out
                omega
            have HNO := Lib.hid hno
            clear hno
            go_wp2
            go_ret3
            exact ⟨0, 0, -1, rfl, bdrewN (Below.refl _ _) _, by decide, by decide, .inl rfl, by rw [← HL.out]; exact HNO.out⟩
          · have hlk : p + 1 + 2 ≤ s.size := by omega
            go_upto_region 13 with fail
            go_loopw [10, 51] (fun vn vi wr => ∃ (j : Nat) (N : Int), vi = .int .i64 j ∧ j ≤ 2 ∧ vn = .int .u64 N ∧ N = (bigV ((l.drop (p + 1)).take j) : Int) ∧ Below w.heap.size w wr) (fun _ vi _ => 2 - (intOf vi).toNat)
            case atStart => exact ⟨0, 0, rfl, by decide, rfl, by simp [bigV], bdrewN (Below.refl _ _) _⟩
            case round =>
              obtain ⟨j, N, rfl, hj, rfl, hN, hB⟩ := hrel
              have HB := Lib.hid hB
              by_cases hjk : j < 2
              · have hjk' : (j : Int) < 2 := by omega
                have hj0 : (0 : Int) ≤ (j : Int) := by omega
                obtain ⟨pj, hpj'⟩ : ∃ pj, pj = p + 1 + j := ⟨_, rfl⟩
                have hpjn : pj < s.size := by omega
                have hpji : (pj : Int) < (s.size : Int) := by omega
                have hpjz : (0 : Int) ≤ (pj : Int) := by omega
                obtain ⟨p1, hp1⟩ : ∃ p1, p1 = p + 1 := ⟨_, rfl⟩
                have e1 : (p : Int) + 1 = (p1 : Int) := by omega
                have e2 : (p1 : Int) + (j : Int) = (pj : Int) := by omega
                have gj := HGET.out pj hpjn
                obtain ⟨cj, hcj⟩ : ∃ cj, cj = s[pj]'hpjn := ⟨_, rfl⟩
                rw [← hcj] at gj
                have hcj' := hcj.symm
                have hb1 := bigV_lt ((l.drop (p + 1)).take j)
                have hlj : ((l.drop (p + 1)).take j).length = j := by rw [List.length_take, List.length_drop]; have := HSZ.out; omega
                rw [hlj] at hb1
                have hb2 : (256 : Nat) ^ j ≤ 256 ^ 7 := Nat.pow_le_pow_right (by decide) (by omega)
                have h7 : (256 : Nat) ^ 7 = 72057594037927936 := by decide
                have hw0 : IntKind.u64.wrap (cj.toNat : Int) = (cj.toNat : Int) := by rw [IntKind.wrap_u64]; have := cj.toNat_lt; omega
                have hw1 : IntKind.u64.wrap (N * 256) = N * 256 := by rw [IntKind.wrap_u64]; omega
                have hw2 : bits BinOp.or IntKind.u64 (N * 256) (cj.toNat : Int) = (bigV ((l.drop (p + 1)).take (j + 1)) : Int) := by
                  rw [hN, or_low _ _ (by omega) cj.toNat_lt, List.take_add_one, List.getElem?_drop, ← hpj', gj]
                  show _ = ((bigV (_ ++ [cj]) : Nat) : Int)
                  rw [bigV_snoc]
                obtain ⟨N2, hN2⟩ : ∃ N2 : Int, N2 = (bigV ((l.drop (p + 1)).take (j + 1)) : Int) := ⟨_, rfl⟩
                rw [← hN2] at hw2
                have HN2 := Lib.hid hN2
                have HP := Lib.hid (And.intro hpj' hp1)
                clear hb1 hlj hb2 h7 hN hN2 gj hcj hB hpj' hp1
                go_wp2
                go_roundw
                case rel => exact ⟨j + 1, N2, by go_num, by omega, rfl, HN2.out, HB.out⟩
                case measure => simp [intOf] <;> omega
              · have hjk' : ¬ (j : Int) < 2 := by omega
                have hje : j = 2 := by omega
                have hfin : HeadAt l p m (bigV ((l.drop (p + 1)).take 2)) ((p : Int) + 1 + 2) := fun M N' t hM hN' h => by
                  obtain ⟨h1, h2, h3⟩ := HF.out M N' t hM hN' h
                  rcases headV_cases hN' with ⟨h4, -, -⟩ | ⟨-, -, h5, h6⟩
                  · omega
                  · rw [← h2, show (2 : Nat) ^ (25 - 24) = 2 by decide] at h5
                    rw [h5] at h3 h6
                    have h7 : (bigL N' 2).length = 2 := bigL_length _ _
                    refine ⟨h1, ?_, by omega, ?_⟩
                    · rw [h3, List.take_left' h7, bigL_back h6]
                    · rw [show ((p : Int) + 1 + 2).toNat = p + 1 + 2 by omega, ← List.drop_drop, h3, List.drop_left' h7]
                have hbv : bigV ((l.drop (p + 1)).take 2) < 18446744073709551616 := by
                  have h1 := bigV_lt ((l.drop (p + 1)).take 2)
                  have h2 : ((l.drop (p + 1)).take 2).length ≤ 8 := by rw [List.length_take]; omega
                  have h3 : (256 : Nat) ^ ((l.drop (p + 1)).take 2).length ≤ 256 ^ 8 := Nat.pow_le_pow_right (by decide) h2
                  have h8 : (256 : Nat) ^ 8 = 18446744073709551616 := by decide
                  omega
                rw [hje] at hN
                have HFN := Lib.hid (And.intro hN (And.intro hfin hbv))
                have hw4 : IntKind.i64.wrap ((p : Int) + 1 + 2) = (p : Int) + 1 + 2 := IntWalk.i64_in _ (by omega)
                clear hN hfin hbv hje hB
                go_wp2
                go_ret3
                exact ⟨m, bigV ((l.drop (p + 1)).take 2), (p : Int) + 1 + 2, by rw [← HFN.out.1]; rfl, HB.out, hm8, HFN.out.2.2, .inr ⟨by omega, by omega⟩, by rw [← HL.out]; exact HFN.out.2.1⟩
        · go_enter Tryd.func44, Tryd.ntmps44
          go_wp2
          go_quiet (fail)
          have HVK : Hid (v = 26) := Lib.hid hvv
          subst hvv
          by_cases hlen : (s.size : Int) - (p : Int) - 1 < 4
          · have hno : HeadAt l p 0 0 (-1) := fun M N t hM hN h => by
              obtain ⟨-, h2, h3⟩ := HF.out M N t hM hN h
              rcases headV_cases hN with ⟨h4, -, -⟩ | ⟨-, -, h5, -⟩
              · omega
              · rw [← h2, show (2 : Nat) ^ (26 - 24) = 4 by decide] at h5
                have h6 := congrArg List.length h3
                rw [List.length_drop, List.length_append, bigL_length, h5] at h6
                have := HSZ.out
                omega
            have HNO := Lib.hid hno
            clear hno
            go_wp2
            go_ret3
            exact ⟨0, 0, -1, rfl, bdrewN (Below.refl _ _) _, by decide, by decide, .inl rfl, by rw [← HL.out]; exact HNO.out⟩
          · have hlk : p + 1 + 4 ≤ s.size := by omega
            go_upto_region 13 with fail
            go_loopw [10, 51] (fun vn vi wr => ∃ (j : Nat) (N : Int), vi = .int .i64 j ∧ j ≤ 4 ∧ vn = .int .u64 N ∧ N = (bigV ((l.drop (p + 1)).take j) : Int) ∧ Below w.heap.size w wr) (fun _ vi _ => 4 - (intOf vi).toNat)
            case atStart => exact ⟨0, 0, rfl, by decide, rfl, by simp [bigV], bdrewN (Below.refl _ _) _⟩
            case round =>
              obtain ⟨j, N, rfl, hj, rfl, hN, hB⟩ := hrel
              have HB := Lib.hid hB
              by_cases hjk : j < 4
              · have hjk' : (j : Int) < 4 := by omega
                have hj0 : (0 : Int) ≤ (j : Int) := by omega
                obtain ⟨pj, hpj'⟩ : ∃ pj, pj = p + 1 + j := ⟨_, rfl⟩
                have hpjn : pj < s.size := by omega
                have hpji : (pj : Int) < (s.size : Int) := by omega
                have hpjz : (0 : Int) ≤ (pj : Int) := by omega
                obtain ⟨p1, hp1⟩ : ∃ p1, p1 = p + 1 := ⟨_, rfl⟩
                have e1 : (p : Int) + 1 = (p1 : Int) := by omega
                have e2 : (p1 : Int) + (j : Int) = (pj : Int) := by omega
                have gj := HGET.out pj hpjn
                obtain ⟨cj, hcj⟩ : ∃ cj, cj = s[pj]'hpjn := ⟨_, rfl⟩
                rw [← hcj] at gj
                have hcj' := hcj.symm
                have hb1 := bigV_lt ((l.drop (p + 1)).take j)
                have hlj : ((l.drop (p + 1)).take j).length = j := by rw [List.length_take, List.length_drop]; have := HSZ.out; omega
                rw [hlj] at hb1
                have hb2 : (256 : Nat) ^ j ≤ 256 ^ 7 := Nat.pow_le_pow_right (by decide) (by omega)
                have h7 : (256 : Nat) ^ 7 = 72057594037927936 := by decide
                have hw0 : IntKind.u64.wrap (cj.toNat : Int) = (cj.toNat : Int) := by rw [IntKind.wrap_u64]; have := cj.toNat_lt; omega
                have hw1 : IntKind.u64.wrap (N * 256) = N * 256 := by rw [IntKind.wrap_u64]; omega
                have hw2 : bits BinOp.or IntKind.u64 (N * 256) (cj.toNat : Int) = (bigV ((l.drop (p + 1)).take (j + 1)) : Int) := by
                  rw [hN, or_low _ _ (by omega) cj.toNat_lt, List.take_add_one, List.getElem?_drop, ← hpj', gj]
                  show _ = ((bigV (_ ++ [cj]) : Nat) : Int)
                  rw [bigV_snoc]
                obtain ⟨N2, hN2⟩ : ∃ N2 : Int, N2 = (bigV ((l.drop (p + 1)).take (j + 1)) : Int) := ⟨_, rfl⟩
                rw [← hN2] at hw2
                have HN2 := Lib.hid hN2
                have HP := Lib.hid (And.intro hpj' hp1)
                clear hb1 hlj hb2 h7 hN hN2 gj hcj hB hpj' hp1
                go_wp2
                go_roundw
                case rel => exact ⟨j + 1, N2, by go_num, by omega, rfl, HN2.out, HB.out⟩
                case measure => simp [intOf] <;> omega
              · have hjk' : ¬ (j : Int) < 4 := by omega
                have hje : j = 4 := by omega
                have hfin : HeadAt l p m (bigV ((l.drop (p + 1)).take 4)) ((p : Int) + 1 + 4) := fun M N' t hM hN' h => by
                  obtain ⟨h1, h2, h3⟩ := HF.out M N' t hM hN' h
                  rcases headV_cases hN' with ⟨h4, -, -⟩ | ⟨-, -, h5, h6⟩
                  · omega
                  · rw [← h2, show (2 : Nat) ^ (26 - 24) = 4 by decide] at h5
                    rw [h5] at h3 h6
                    have h7 : (bigL N' 4).length = 4 := bigL_length _ _
                    refine ⟨h1, ?_, by omega, ?_⟩
                    · rw [h3, List.take_left' h7, bigL_back h6]
                    · rw [show ((p : Int) + 1 + 4).toNat = p + 1 + 4 by omega, ← List.drop_drop, h3, List.drop_left' h7]
                have hbv : bigV ((l.drop (p + 1)).take 4) < 18446744073709551616 := by
                  have h1 := bigV_lt ((l.drop (p + 1)).take 4)
                  have h2 : ((l.drop (p + 1)).take 4).length ≤ 8 := by rw [List.length_take]; omega
                  have h3 : (256 : Nat) ^ ((l.drop (p + 1)).take 4).length ≤ 256 ^ 8 := Nat.pow_le_pow_right (by decide) h2
                  have h8 : (256 : Nat) ^ 8 = 18446744073709551616 := by decide
                  omega
                rw [hje] at hN
                have HFN := Lib.hid (And.intro hN (And.intro hfin hbv))
                have hw4 : IntKind.i64.wrap ((p : Int) + 1 + 4) = (p : Int) + 1 + 4 := IntWalk.i64_in _ (by omega)
                clear hN hfin hbv hje hB
                go_wp2
                go_ret3
                exact ⟨m, bigV ((l.drop (p + 1)).take 4), (p : Int) + 1 + 4, by rw [← HFN.out.1]; rfl, HB.out, hm8, HFN.out.2.2, .inr ⟨by omega, by omega⟩, by rw [← HL.out]; exact HFN.out.2.1⟩
        · go_enter Tryd.func44, Tryd.ntmps44
          go_wp2
          go_quiet (fail)
          have HVK : Hid (v = 27) := Lib.hid hvv
          subst hvv
          by_cases hlen : (s.size : Int) - (p : Int) - 1 < 8
          · have hno : HeadAt l p 0 0 (-1) := fun M N t hM hN h => by
              obtain ⟨-, h2, h3⟩ := HF.out M N t hM hN h
              rcases headV_cases hN with ⟨h4, -, -⟩ | ⟨-, -, h5, -⟩
              · omega
              · rw [← h2, show (2 : Nat) ^ (27 - 24) = 8 by decide] at h5
                have h6 := congrArg List.length h3
                rw [List.length_drop, List.length_append, bigL_length, h5] at h6
                have := HSZ.out
                omega
            have HNO := Lib.hid hno
            clear hno
            go_wp2
            go_ret3
            exact ⟨0, 0, -1, rfl, bdrewN (Below.refl _ _) _, by decide, by decide, .inl rfl, by rw [← HL.out]; exact HNO.out⟩
          · have hlk : p + 1 + 8 ≤ s.size := by omega
            go_upto_region 13 with fail
            go_loopw [10, 51] (fun vn vi wr => ∃ (j : Nat) (N : Int), vi = .int .i64 j ∧ j ≤ 8 ∧ vn = .int .u64 N ∧ N = (bigV ((l.drop (p + 1)).take j) : Int) ∧ Below w.heap.size w wr) (fun _ vi _ => 8 - (intOf vi).toNat)
            case atStart => exact ⟨0, 0, rfl, by decide, rfl, by simp [bigV], bdrewN (Below.refl _ _) _⟩
            case round =>
              obtain ⟨j, N, rfl, hj, rfl, hN, hB⟩ := hrel
              have HB := Lib.hid hB
              by_cases hjk : j < 8
              · have hjk' : (j : Int) < 8 := by omega
                have hj0 : (0 : Int) ≤ (j : Int) := by omega
                obtain ⟨pj, hpj'⟩ : ∃ pj, pj = p + 1 + j := ⟨_, rfl⟩
                have hpjn : pj < s.size := by omega
                have hpji : (pj : Int) < (s.size : Int) := by omega
                have hpjz : (0 : Int) ≤ (pj : Int) := by omega
                obtain ⟨p1, hp1⟩ : ∃ p1, p1 = p + 1 := ⟨_, rfl⟩
                have e1 : (p : Int) + 1 = (p1 : Int) := by omega
                have e2 : (p1 : Int) + (j : Int) = (pj : Int) := by omega
                have gj := HGET.out pj hpjn
                obtain ⟨cj, hcj⟩ : ∃ cj, cj = s[pj]'hpjn := ⟨_, rfl⟩
                rw [← hcj] at gj
                have hcj' := hcj.symm
                have hb1 := bigV_lt ((l.drop (p + 1)).take j)
                have hlj : ((l.drop (p + 1)).take j).length = j := by rw [List.length_take, List.length_drop]; have := HSZ.out; omega
                rw [hlj] at hb1
                have hb2 : (256 : Nat) ^ j ≤ 256 ^ 7 := Nat.pow_le_pow_right (by decide) (by omega)
                have h7 : (256 : Nat) ^ 7 = 72057594037927936 := by decide
                have hw0 : IntKind.u64.wrap (cj.toNat : Int) = (cj.toNat : Int) := by rw [IntKind.wrap_u64]; have := cj.toNat_lt; omega
                have hw1 : IntKind.u64.wrap (N * 256) = N * 256 := by rw [IntKind.wrap_u64]; omega
                have hw2 : bits BinOp.or IntKind.u64 (N * 256) (cj.toNat : Int) = (bigV ((l.drop (p + 1)).take (j + 1)) : Int) := by
                  rw [hN, or_low _ _ (by omega) cj.toNat_lt, List.take_add_one, List.getElem?_drop, ← hpj', gj]
                  show _ = ((bigV (_ ++ [cj]) : Nat) : Int)
                  rw [bigV_snoc]
                obtain ⟨N2, hN2⟩ : ∃ N2 : Int, N2 = (bigV ((l.drop (p + 1)).take (j + 1)) : Int) := ⟨_, rfl⟩
                rw [← hN2] at hw2
                have HN2 := Lib.hid hN2
                have HP := Lib.hid (And.intro hpj' hp1)
                clear hb1 hlj hb2 h7 hN hN2 gj hcj hB hpj' hp1
                go_wp2
                go_roundw
                case rel => exact ⟨j + 1, N2, by go_num, by omega, rfl, HN2.out, HB.out⟩
                case measure => simp [intOf] <;> omega
              · have hjk' : ¬ (j : Int) < 8 := by omega
                have hje : j = 8 := by omega
                have hfin : HeadAt l p m (bigV ((l.drop (p + 1)).take 8)) ((p : Int) + 1 + 8) := fun M N' t hM hN' h => by
                  obtain ⟨h1, h2, h3⟩ := HF.out M N' t hM hN' h
                  rcases headV_cases hN' with ⟨h4, -, -⟩ | ⟨-, -, h5, h6⟩
                  · omega
                  · rw [← h2, show (2 : Nat) ^ (27 - 24) = 8 by decide] at h5
                    rw [h5] at h3 h6
                    have h7 : (bigL N' 8).length = 8 := bigL_length _ _
                    refine ⟨h1, ?_, by omega, ?_⟩
                    · rw [h3, List.take_left' h7, bigL_back h6]
                    · rw [show ((p : Int) + 1 + 8).toNat = p + 1 + 8 by omega, ← List.drop_drop, h3, List.drop_left' h7]
                have hbv : bigV ((l.drop (p + 1)).take 8) < 18446744073709551616 := by
                  have h1 := bigV_lt ((l.drop (p + 1)).take 8)
                  have h2 : ((l.drop (p + 1)).take 8).length ≤ 8 := by rw [List.length_take]; omega
                  have h3 : (256 : Nat) ^ ((l.drop (p + 1)).take 8).length ≤ 256 ^ 8 := Nat.pow_le_pow_right (by decide) h2
                  have h8 : (256 : Nat) ^ 8 = 18446744073709551616 := by decide
                  omega
                rw [hje] at hN
                have HFN := Lib.hid (And.intro hN (And.intro hfin hbv))
                have hw4 : IntKind.i64.wrap ((p : Int) + 1 + 8) = (p : Int) + 1 + 8 := IntWalk.i64_in _ (by omega)
                clear hN hfin hbv hje hB
                go_wp2
                go_ret3
                exact ⟨m, bigV ((l.drop (p + 1)).take 8), (p : Int) + 1 + 8, by rw [← HFN.out.1]; rfl, HB.out, hm8, HFN.out.2.2, .inr ⟨by omega, by omega⟩, by rw [← HL.out]; exact HFN.out.2.1⟩
  · have hpj2 : (s.size : Int) ≤ (p : Int) := by omega
    have hno : HeadAt l p 0 0 (-1) := fun M N t hM hN h => by
      rw [List.drop_eq_nil_of_le (by have := HSZ.out; omega)] at h
      unfold headL at h
      cases h
    have HNO := Lib.hid hno
    clear hno
    go_enter Tryd.func44, Tryd.ntmps44
    go_wp2
    go_ret3
    exact ⟨0, 0, -1, rfl, Below.refl _ _, by decide, by decide, .inl rfl, by rw [← HL.out]; exact HNO.out⟩
end Go.Proofs.YtgkbijgknacccaaDoor
