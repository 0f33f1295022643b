/- The walk of the statement JsonQuotes. -/
import Derived.Test.YtogpdgpekbkneaaDoorJdec
namespace Go.Proofs.YtogpdgpekbkneaaDoor
open Go Go.ChangeShapes Go.WideShapes Go.ChangeAt Go.RowKit
set_option linter.unusedVariables false
set_option linter.unusedSimpArgs false

/-- A quoted text is read again. -/
theorem quote_dec {x : ByteArray} {n : ND} {er : Int} (hv : Lib.validD x.data.toList = true) (hs : x.size ≤ 1000) (h : DecIs (bA (quoteL x.data.toList)) n er) : er = 0 ∧ n = .mk 3 false 0 x [] [] := by
  have hl : x.data.toList.length = x.size := by rw [Array.length_toList]; rfl
  have hy : validN 8 (.mk 3 false 0 x [] []) = true := by
    rw [validN_succ, Bool.and_eq_true]
    refine ⟨?_, rfl⟩
    have ht : textOk x = true := by
      unfold textOk
      rw [hv]
      simp
      omega
    unfold flatOk
    simp [ND.kind, ND.bool, ND.num, ND.text, ND.items, ND.names, ht]
  have hn : numsB 8 (.mk 3 false 0 x [] []) = true := by rw [numsB_succ, Bool.and_eq_true]; exact ⟨rfl, rfl⟩
  have hw : writeN 8 (.mk 3 false 0 x [] []) = quoteL x.data.toList := rfl
  have hq : (bA (quoteL x.data.toList)).size ≤ 65536 := by
    rw [bA_size]
    have := quoteL_len x.data.toList
    omega
  rcases h with ⟨h0, h1, h2, h3, -⟩ | ⟨-, -, h4⟩
  · refine ⟨h0, writeN_inj (d := 8) ?_ ?_ ?_⟩
    · unfold validW; rw [h1, h2]; rfl
    · unfold validW; rw [hy, hn]; rfl
    · rw [h3, bA_data]; rfl
  · exact absurd (by rw [bA_data]; exact hw) (h4 _ hy hn hq)
/-- No byte of a quoted text is below 32. -/
theorem quote_high (l : List UInt8) : ∀ c, c ∈ quoteL l → 32 ≤ c.toNat := by
  have he : ∀ b c : UInt8, c ∈ jEsc b → 32 ≤ c.toNat := by
    have : ∀ b : Fin 256, ∀ c, c ∈ jEsc (UInt8.ofNat b.1) → 32 ≤ c.toNat := by decide +kernel
    intro b c hc
    have h := this ⟨b.toNat, b.toNat_lt⟩ c
    rw [show UInt8.ofNat b.toNat = b from UInt8.ofNat_toNat] at h
    exact h hc
  intro c hc
  unfold quoteL at hc
  simp only [List.mem_cons, List.mem_append, List.mem_flatMap, List.not_mem_nil, or_false] at hc
  rcases hc with rfl | ⟨b, -, hb⟩ | rfl
  · decide
  · exact he b c hb
  · decide
/-- One text of the four. -/
def Fit4 (l : List ByteArray) : Prop := l.length = 4 ∧ ∀ x, x ∈ l → x.size ≤ 400
set_option maxHeartbeats 6400000 in
set_option maxRecDepth 100000 in
theorem quotes_walk (s : ByteArray) (z : Int) (w : World) (hz0 : 0 ≤ z) (hz1 : z < 256) (hT : Utab w) (hI : Itab w) (hE : EVars w) :
    Calls Tryd.prog 6 #[.string s, .int .u8 z] w fun e w' => e = .returned (.bool true) ∧ Below w.heap.size w w' := by
  have AW := Lib.hid (fun (wx : World) (hb : Below w.heap.size w wx) => awake6_any wx (hT.below hb) (hI.below hb))
  by_cases hl : 300 < s.size
  · have hl' : (300 : Int) < (s.size : Int) := by omega
    clear hT hI hE
    go_enter Tryd.func6, Tryd.ntmps6
    go_wp2_with (go_at_call 8; (with_reducible refine (AW.out _ (Below.refl _ _)).mono ?_); rintro e w1 ⟨rfl, hb⟩)
    go_ret
    exact ⟨rfl, hb⟩
  · have hl' : ¬ (300 : Int) < (s.size : Int) := by omega
    have HT := Lib.hid (And.intro hT (And.intro hI hE))
    obtain ⟨cb, rfl⟩ : ∃ cb : UInt8, (cb.toNat : Int) = z := ⟨UInt8.ofNat z.toNat, by rw [UInt8.toNat_ofNat']; omega⟩
    obtain ⟨b1, hb1⟩ : ∃ b : UInt8, b.toNat = cb.toNat % 128 := ⟨UInt8.ofNat (cb.toNat % 128), by rw [UInt8.toNat_ofNat']; omega⟩
    obtain ⟨b2, hb2⟩ : ∃ b : UInt8, b.toNat = cb.toNat % 32 := ⟨UInt8.ofNat (cb.toNat % 32), by rw [UInt8.toNat_ofNat']; omega⟩
    have m1 : (cb.toNat : Int).tmod 128 = (b1.toNat : Int) := by rw [Int.tmod_eq_emod_of_nonneg (by omega)]; omega
    have m2 : (cb.toNat : Int).tmod 32 = (b2.toNat : Int) := by rw [Int.tmod_eq_emod_of_nonneg (by omega)]; omega
    have e1 : (bA [b1]).size = 1 := rfl
    have hcat : ¬ 9223372036854775807 < s.size + (bA [b1]).size := by omega
    have conv : ∀ (W : World) (k : Nat) (l : List UInt8) (hk : W.heap.size = k), (convert 43 9 (.slice (some ⟨k, 0, none⟩) l.length l.length)).run Tryd.prog (W.alloc (.cells (l.map fun b => Value.int .u8 (b.toNat : Int)).toArray 5)) = .ok (.string (bA l)) (W.alloc (.cells (l.map fun b => Value.int .u8 (b.toNat : Int)).toArray 5)) := by
      intro W k l hk
      subst hk
      refine run_convert_bytes_back _ _ _ 5 ⟨W.heap.size, 0, none⟩ l.length l Tryd.underlying43 Tryd.underlying5 Tryd.underlying9 fun j hj => ?_
      exact cells_new W _ 5 (l.map fun b => Value.int .u8 (b.toNat : Int)) (by simp) j _ (by simp [List.getElem?_eq_getElem hj])
    have c1 := conv w w.heap.size [b1] rfl
    obtain ⟨wa, hwa⟩ : ∃ W, W = w.alloc (.cells #[.int .u8 (b1.toNat : Int)] 5) := ⟨_, rfl⟩
    have c2 := conv wa (w.heap.size + 1) [cb] (by rw [hwa]; simp)
    obtain ⟨wb, hwb⟩ : ∃ W, W = wa.alloc (.cells #[.int .u8 (cb.toNat : Int)] 5) := ⟨_, rfl⟩
    have c3 := conv wb (w.heap.size + 1 + 1) [b2, 34, 92] (by rw [hwb, hwa]; simp)
    rw [hwb] at c3
    rw [hwa] at c2 c3
    simp only [List.map_cons, List.map_nil, List.length_cons, List.length_nil, Nat.zero_add, Nat.reduceAdd] at c1 c2 c3
    simp only [show ((34 : UInt8).toNat : Int) = 34 from rfl, show ((92 : UInt8).toNat : Int) = 92 from rfl] at c3
    clear conv hT hI hE hb1 hb2 hwa hwb
    go_enter Tryd.func6, Tryd.ntmps6
    go_upto_region 4 with fail
    obtain ⟨L, hL⟩ : ∃ L, L = [s, s ++ bA [b1], bA [cb], bA [b2, 34, 92]] := ⟨_, rfl⟩
    obtain ⟨W3, hW3⟩ : ∃ W, W = (((w.alloc (.cells #[.int .u8 (b1.toNat : Int)] 5)).alloc (.cells #[.int .u8 (cb.toNat : Int)] 5)).alloc (.cells #[.int .u8 (b2.toNat : Int), .int .u8 34, .int .u8 92] 5)) := ⟨_, rfl⟩
    have b03 : Below w.heap.size w W3 := by
      rw [hW3]
      exact (((Below.refl _ _).alloc (Nat.le_refl _) _).alloc (by simp) _).alloc (by simp; omega) _
    have z3 : W3.heap.size = w.heap.size + 1 + 1 + 1 := by rw [hW3]; simp
    have b34 := (Below.refl W3.heap.size W3).alloc (o := .cells #[.string s, .string (s ++ bA [b1]), .string (bA [cb]), .string (bA [b2, 34, 92])] 9) (Nat.le_refl _)
    have hk := heap_alloc_new W3 (.cells #[.string s, .string (s ++ bA [b1]), .string (bA [cb]), .string (bA [b2, 34, 92])] 9)
    rw [z3] at hk
    rw [← hW3]
    obtain ⟨W4, hW4⟩ : ∃ W, W = W3.alloc (.cells #[.string s, .string (s ++ bA [b1]), .string (bA [cb]), .string (bA [b2, 34, 92])] 9) := ⟨_, rfl⟩
    rw [← hW4] at b34 hk
    rw [← hW4]
    obtain ⟨k, hkk⟩ : ∃ k, k = w.heap.size + 1 + 1 + 1 := ⟨_, rfl⟩
    rw [← hkk] at hk
    rw [← hkk]
    have hk4 : k < W4.heap.size := lt_of_block hk
    have b4 : Below w.heap.size w W4 := b03.trans (b34.mono b03.size)
    have HC : Hid (∀ (wr : World), Below W4.heap.size W4 wr → ∀ (j : Nat) (x : ByteArray), L[j]? = some x → wr.cell? ⟨k, j, none⟩ = some (.string x)) := Lib.hid fun wr hb j x hj => by
      have h1 := (hb.block k hk4).trans hk
      refine cells_lit (L.map Value.string) h1 (by rw [hL]; rfl) j (.string x) (by rw [List.getElem?_map, hj]; rfl)
    have HS : Hid (∀ (j : Nat) (x : ByteArray), L[j]? = some x → x.size ≤ 400) := Lib.hid fun j x hj => by
      rw [hL] at hj
      match j, hj with
      | 0, hj => cases hj; omega
      | 1, hj => cases hj; rw [ByteArray.size_append, e1]; omega
      | 2, hj => cases hj; show 1 ≤ 400; omega
      | 3, hj => cases hj; show 3 ≤ 400; omega
      | j + 4, hj => simp at hj
    have hLl : L.length = 4 := by rw [hL]; rfl
    have HLl := Lib.hid hLl
    have B4 := Lib.hid b4
    clear c1 c2 c3 hW3 hW4 b03 z3 b34 hk hkk hk4 hL b4 hcat e1 m1 m2 hLl hl
    go_loopw [34] (fun i wr => ∃ j : Nat, i = .int .i64 j ∧ j ≤ 4 ∧ Below W4.heap.size W4 wr) (fun i _ => 4 - (intOf i).toNat)
    case atStart => exact ⟨0, rfl, by omega, Below.refl _ _⟩
    case round =>
      obtain ⟨j, rfl, hj, hbr⟩ := hrel
      have hB := B4.out.trans (hbr.mono B4.out.size)
      by_cases hj4 : j < 4
      · have hj4' : (j : Int) < 4 := by omega
        have hj0 : (0 : Int) ≤ (j : Int) := by omega
        obtain ⟨x, hx⟩ : ∃ x, L[j]? = some x := ⟨_, List.getElem?_eq_getElem (by have := HLl.out; omega)⟩
        have hcell := HC.out wr hbr j x hx
        have hxs := HS.out j x hx
        have Q1 := Lib.hid (jquo_any x wr (by omega) (HT.out.1.below hB))
        have Q2 := Lib.hid (fun (wx : World) (hb : Below wr.heap.size wr wx) => rquo_any x wx (by omega) ((HT.out.1.below hB).below hb))
        have HB := Lib.hid (And.intro hbr hB)
        clear hx hbr hB
        go_upto_region 8 with (first
          | (go_at_call 19; (with_reducible refine (Q1.out).mono ?_); rintro e1 w1 ⟨rfl, hb1⟩)
          | (go_at_call 20; (with_reducible refine (Q2.out _ hb1).mono ?_); rintro e2 w2 ⟨rfl, hb2⟩))
        have hb12 := hb1.trans (hb2.mono hb1.size)
        have HB12 := Lib.hid hb12
        clear hb1 hb2 hb12 Q1 Q2 hcell
        cases hv : Lib.validD x.data.toList with
        | false =>
          have q1 : quoE x = 4 := by unfold quoE; rw [hv]; rfl
          rw [q1]
          generalize quoS x = a
          clear q1 hv
          go_wp2
          go_roundw
          case rel => exact ⟨j + 1, by go_num, by omega, HB.out.1.trans (HB12.out.mono HB.out.1.size)⟩
          case measure => simp [intOf]; omega
        | true =>
          have q1 : quoE x = 0 := by unfold quoE; rw [hv]; rfl
          have q2 : quoS x = bA (quoteL x.data.toList) := by unfold quoS; rw [hv]; rfl
          rw [q1, q2]
          obtain ⟨A, hA⟩ : ∃ A, A = bA (quoteL x.data.toList) := ⟨_, rfl⟩
          rw [← hA]
          have hAs : A.size ≤ 10000 := by
            rw [hA, bA_size]
            have := quoteL_len x.data.toList
            have : x.data.toList.length = x.size := by rw [Array.length_toList]; rfl
            omega
          have HHI : Hid (∀ (i : Nat) (b : UInt8), A.data.toList[i]? = some b → 32 ≤ b.toNat) := Lib.hid fun i b hb => by
            rw [hA, bA_data] at hb
            exact quote_high _ _ (List.mem_of_getElem? hb)
          have hB2 := HB.out.2.trans (HB12.out.mono HB.out.2.size)
          have DC := Lib.hid (jdec_any A w2 (HT.out.1.below hB2) (HT.out.2.1.below hB2) (HT.out.2.2.below hB2))
          have HDI : Hid (∀ n er, DecIs A n er → er = 0 ∧ n = .mk 3 false 0 x [] []) := Lib.hid fun n er h => quote_dec hv (by omega) (by rw [← hA]; exact h)
          have HAS := Lib.hid hAs
          clear q1 q2 hA hv hB2
          go_upto_region 12 with fail
          go_loopw [60] (fun i2 wq => ∃ i : Nat, i2 = .int .i64 i ∧ i ≤ A.size ∧ wq = w2) (fun i2 _ => A.size - (intOf i2).toNat)
          case atStart => exact ⟨0, rfl, Nat.zero_le _, rfl⟩
          case round =>
            obtain ⟨i, rfl, hi, rfl⟩ := hrel
            by_cases hia : i < A.size
            · have hia' : (i : Int) < (A.size : Int) := by omega
              have hi0 : (0 : Int) ≤ (i : Int) := by omega
              have hib : ¬ ((A[i]'hia).toNat : Int) < 32 := by
                have := HHI.out i (A[i]'hia) (Lib.data_getElem? A i hia)
                omega
              go_wp2
              go_roundw
              case rel => exact ⟨i + 1, by go_num, by omega, trivial⟩
              case measure => simp [intOf]; omega
            · have hia' : ¬ (i : Int) < (A.size : Int) := by omega
              go_upto_region 18 with (go_at_call 16; (with_reducible refine (DC.out).mono ?_); rintro e3 w3 ⟨cs, n, er, rfl, hn3, hb3, hd3⟩; go_loud ((obtain ⟨rfl, rfl⟩ := HDI.out n er hd3); (obtain ⟨a1, l1, c1, a2, l2, c2, hcs⟩ := hn3.slices); subst hcs; simp only [ND.kind, ND.bool, ND.num, ND.text]))
              have cx := six_of (heap_alloc_new w3 (.cells #[.int .i64 3, .bool false, .int .i64 0, .string x, .slice a1 l1 c1, .slice a2 l2 c2] 26))
              have b5 := (Below.refl w3.heap.size w3).alloc (o := .cells #[.int .i64 3, .bool false, .int .i64 0, .string x, .slice a1 l1 c1, .slice a2 l2 c2] 26) (Nat.le_refl _)
              have hb5 := hb3.trans (b5.mono hb3.size)
              have HB5 := Lib.hid hb5
              clear hn3 hd3 hb3 b5 hb5 DC
              obtain ⟨W5, hW5⟩ : ∃ W, W = w3.alloc (.cells #[.int .i64 3, .bool false, .int .i64 0, .string x, .slice a1 l1 c1, .slice a2 l2 c2] 26) := ⟨_, rfl⟩
              rw [← hW5] at cx HB5
              try rw [← hW5]
              clear hW5
              go_wp2
              go_roundw
              case rel => exact ⟨j + 1, by go_num, by omega, HB.out.1.trans ((HB12.out.trans (HB5.out.mono HB12.out.size)).mono HB.out.1.size)⟩
              case measure => simp [intOf]; omega
      · have hj4' : ¬ (j : Int) < 4 := by omega
        have A1 := Lib.hid (AW.out wr hB)
        have HB := Lib.hid hB
        clear hB hbr
        go_wp2_with (go_at_call 8; (with_reducible refine (A1.out).mono ?_); rintro e w1 ⟨rfl, hb⟩)
        go_ret
        exact ⟨rfl, HB.out.trans (hb.mono HB.out.size)⟩
end Go.Proofs.YtogpdgpekbkneaaDoor
