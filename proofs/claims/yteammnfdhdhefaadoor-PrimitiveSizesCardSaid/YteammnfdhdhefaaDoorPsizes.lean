/- The walk of the statement PrimitiveSizes: whatever the two numbers are, the Go text returns true, provided that the table of layouts reads as the program lays it. -/
import Derived.Test.YteammnfdhdhefaaDoorPawk
import Derived.Test.YteammnfdhdhefaaDoorPmath
import Derived.Test.YteammnfdhdhefaaDoorAwake
namespace Go.Proofs.YteammnfdhdhefaaDoor
open Go.ChangeShapes Go.WideShapes Go.ChangeAt Go.RowKit
set_option linter.unusedVariables false
set_option linter.unusedSimpArgs false

/-- 'make([]T, n)' under a guard that holds. -/
theorem wpList_make_want {P : Program} (w : World) {ops : Array Oper} {rest : List Oper} {o : Oper} {a : Act} {Q : Exit → Act → World → Prop}
    (hg : Region.wanted o (yielded ops a.tmps) = true) (l c : Operand) (t : TypeId) (hop : o.op = Op.makeSlice t l c)
    (base : Nat) (e : TypeId) (i : TypeInfo) (z : Value) (size : Nat) (h1 : P.underlying t = some (.slice e)) (h2 : P.info? e = some i) (h3 : i.zero = some z) (h4 : i.size = size)
    (kl kc : IntKind) (L C : Int) (n : Nat) (hl : a.eval l = .int kl L) (hc : a.eval c = .int kc C) (hL : L = (n : Int)) (hC : C = (n : Int)) (b2 : i.bytes * n ≤ 281474976710656) (b3 : n ≤ maxLen) (b4 : base ≤ w.heap.size)
    (hK : ∀ w', w'.ownsRow base e size (.slice (some ⟨w.heap.size, 0, none⟩) n n) n (madeCells z.cells (n * size)).toList → w.grownBy w' none → wpList P ops Q rest (a.put o.dst (.slice (some ⟨w.heap.size, 0, none⟩) n n)) w') :
    wpList P ops Q (o :: rest) a w := by
  refine BigFrame.wpList_want hg fun K hK' => ?_
  obtain ⟨w', hrun, r1, r2⟩ := run_make_full (P := P) w base t e i z size h1 h2 h3 h4 kl kc n b2 b3 b4
  subst hL
  subst hC
  unfold Oper.wp
  simp [execOp, hop, hl, hc, hrun, Result.andThen]
  exact hK' _ _ (hK w' r1 r2)
theorem code_prefix (c d : Nat) (h1 : 1 ≤ c) (h8 : c ≤ 8) (d1 : 1 ≤ d) (d8 : d ≤ 8) (hne : c ≠ d) : (⟨(codeL d).toArray⟩ : ByteArray).extract 0 (⟨(codeL c).toArray⟩ : ByteArray).size ≠ ⟨(codeL c).toArray⟩ := by
  rcases eight_codes h1 h8 with rfl | rfl | rfl | rfl | rfl | rfl | rfl | rfl <;> rcases eight_codes d1 d8 with rfl | rfl | rfl | rfl | rfl | rfl | rfl | rfl <;> first | exact absurd rfl hne | decide +kernel
theorem size_raw (c : Nat) (h1 : 1 ≤ c) (h8 : c ≤ 8) : rawN c ≤ sizeN c / 4 * 3 ∧ sizeN c / 4 * 3 ≤ rawN c + 3 ∧ 1 ≤ rawN c := by
  rcases eight_codes h1 h8 with rfl | rfl | rfl | rfl | rfl | rfl | rfl | rfl <;> decide

set_option maxHeartbeats 1600000 in
set_option maxRecDepth 100000 in
theorem sizes_walk (a b : Int) (w : World) (a1 : -9223372036854775808 ≤ a) (a2 : a ≤ 9223372036854775807) (b1 : -9223372036854775808 ≤ b) (b2 : b ≤ 9223372036854775807) (hL : Lay w) :
    Calls Tryd.prog 8 #[.int .i64 a, .int .i64 b] w fun e w' => e = .returned (.bool true) ∧ Below w.heap.size w w' := by
  obtain ⟨i0, hi, hz0, hz1, hz2⟩ := info_parts Tryd.info5
  obtain ⟨ka, hka⟩ : ∃ k : Nat, a % 8 = (k : Int) := ⟨(a % 8).toNat, by omega⟩
  obtain ⟨kb, hkb⟩ : ∃ k : Nat, b % 8 = (k : Int) := ⟨(b % 8).toNat, by omega⟩
  have MA := fun wx : World => mod_any a 8 wx (by decide) (by decide) a1 a2
  have MB := fun wx : World => mod_any b 8 wx (by decide) (by decide) b1 b2
  rw [show ((8 : Nat) : Int) = 8 from rfl] at MA MB
  rw [hka] at MA
  rw [hkb] at MB
  obtain ⟨c, hc⟩ : ∃ c, c = ka + 1 := ⟨_, rfl⟩
  obtain ⟨d, hd⟩ : ∃ d, d = kb + 1 := ⟨_, rfl⟩
  have hca : 1 + (ka : Int) = (c : Int) := by omega
  have hda : 1 + (kb : Int) = (d : Int) := by omega
  have c1 : 1 ≤ c := by omega
  have c8 : c ≤ 8 := by omega
  have d1 : 1 ≤ d := by omega
  have d8 : d ≤ 8 := by omega
  have CC := fun (wx : World) (hx : Lay wx) => ycode_any (c : Int) wx hx
  have CD := fun (wx : World) (hx : Lay wx) => ycode_any (d : Int) wx hx
  have CZ := fun (wx : World) (hx : Lay wx) => ycode_any 0 wx hx
  rw [show codeV (c : Int) = .tuple #[.string ⟨(codeL c).toArray⟩, .bool true] from if_pos (by omega)] at CC
  rw [show codeV (d : Int) = .tuple #[.string ⟨(codeL d).toArray⟩, .bool true] from if_pos (by omega)] at CD
  rw [show codeV 0 = .tuple #[.string ⟨#[]⟩, .bool false] from if_neg (by omega)] at CZ
  have RC := fun (wx : World) (hx : Lay wx) => yraw_any (c : Int) wx hx
  have RZ := fun (wx : World) (hx : Lay wx) => yraw_any 0 wx hx
  rw [show rawI (c : Int) = (rawN c : Int) from rfl] at RC
  rw [show rawI 0 = 0 from rfl] at RZ
  have SC := fun (wx : World) (hx : Lay wx) => ysizes_any (c : Int) wx hx
  have S9 := fun (wx : World) (hx : Lay wx) => ysizes_any 9 wx hx
  rw [show sizeI (c : Int) = (sizeN c : Int) from rfl] at SC
  rw [show sizeI 9 = 0 from rfl] at S9
  have hp : IsPrim c ⟨(List.replicate (rawN c) (0 : UInt8)).toArray⟩ := ⟨c1, c8, zeros_size _⟩
  have MK := fun (wx : World) (hx : Lay wx) => ymake_any (c : Int) ⟨(List.replicate (rawN c) (0 : UInt8)).toArray⟩ wx (by rw [zeros_size]; have := hp.rawpos; unfold maxLen; omega) hx
  rw [hp.primS] at MK
  have hTz := hp.txt_size
  obtain ⟨T, hT⟩ : ∃ T, T = txt c ⟨(List.replicate (rawN c) (0 : UInt8)).toArray⟩ := ⟨_, rfl⟩
  rw [← hT] at MK hTz
  obtain ⟨Z, hZ⟩ : ∃ z : ByteArray, z = ⟨(List.replicate (rawN c) (0 : UInt8)).toArray⟩ := ⟨_, rfl⟩
  rw [← hZ] at MK
  have hsr := size_raw c c1 c8
  have hs4 := (size_four c c1 c8).1
  have hr626 := hp.rawpos
  have hs836 := (size_four c c1 c8).2.2.1
  have hpre : c ≠ d → _ := code_prefix c d c1 c8 d1 d8
  obtain ⟨N, hN⟩ : ∃ N, N = rawN c := ⟨_, rfl⟩
  obtain ⟨S, hS⟩ : ∃ S, S = sizeN c := ⟨_, rfl⟩
  obtain ⟨s, hs⟩ : ∃ s : ByteArray, s = ⟨(codeL c).toArray⟩ := ⟨_, rfl⟩
  obtain ⟨u, hu⟩ : ∃ u : ByteArray, u = ⟨(codeL d).toArray⟩ := ⟨_, rfl⟩
  have C1 : Hid (∀ (w1 : World) (B : Nat) (v : Value), w1.ownsRow B 5 1 v N (madeCells (Value.int .u8 0).cells (N * 1)).toList → (convert 49 9 v).run Tryd.prog w1 = .ok (.string Z) w1) := Lib.hid (fun w1 B v h => by rw [hZ, ← hN]; exact zeros_string h)
  rw [← hN] at RC hsr hr626
  rw [← hS] at SC hTz hsr hs4 hs836
  rw [← hs] at CC hpre
  rw [← hu] at CD hpre
  have MA' := Lib.hid MA
  have MB' := Lib.hid MB
  have CC' := Lib.hid CC
  have CD' := Lib.hid CD
  have CZ' := Lib.hid CZ
  have RC' := Lib.hid RC
  have RZ' := Lib.hid RZ
  have SC' := Lib.hid SC
  have S9' := Lib.hid S9
  have MK' := Lib.hid MK
  have AW := Lib.hid (fun (wx : World) (hx : Lay wx) => awake3_any wx hx)
  have hm4 : ((S : Int) % 4 != 0) = false := by simp only [bne_eq_false_iff_eq]; omega
  have hq1 : ¬ (S : Int) / 4 * 3 < (N : Int) := by omega
  have hq2 : ¬ (N : Int) + 3 < (S : Int) / 4 * 3 := by omega
  have hn1 : ¬ (N : Int) < 1 := by omega
  have hTz' : (T.size : Int) = (S : Int) := by omega
  have hN0 : N ≤ 626 := hr626.2
  have hLT := hL.lt
  have HL := Lib.hid hL
  have hB := Below.refl w.heap.size w
  clear MA MB CC CD CZ RC RZ SC S9 MK hka hkb hc hd hp hT hZ hN hS hs hu hsr hs4 hr626 a1 a2 b1 b2 hL
  by_cases hcd : c = d
  · have hx : ((c : Int) != (d : Int)) = false := by simp [hcd]
    clear hcd hpre
    go_enter Tryd.func8, Tryd.ntmps8
    go_wp2_with (first
      | (go_at_call 18; first | ((with_reducible refine (MA'.out _).mono ?_); rintro e w3 ⟨rfl, rfl⟩) | ((with_reducible refine (MB'.out _).mono ?_); rintro e w3 ⟨rfl, rfl⟩))
      | (go_at_call 27; first | ((with_reducible refine (CC'.out _ (HL.out.below hLT hB)).mono ?_); rintro e wn ⟨rfl, hb⟩; replace hB := hB.trans (hb.mono hB.size); clear hb) | ((with_reducible refine (CD'.out _ (HL.out.below hLT hB)).mono ?_); rintro e wn ⟨rfl, hb⟩; replace hB := hB.trans (hb.mono hB.size); clear hb) | ((with_reducible refine (CZ'.out _ (HL.out.below hLT hB)).mono ?_); rintro e wn ⟨rfl, hb⟩; replace hB := hB.trans (hb.mono hB.size); clear hb))
      | (go_at_call 29; first | ((with_reducible refine (RC'.out _ (HL.out.below hLT hB)).mono ?_); rintro e wn ⟨rfl, hb⟩; replace hB := hB.trans (hb.mono hB.size); clear hb) | ((with_reducible refine (RZ'.out _ (HL.out.below hLT hB)).mono ?_); rintro e wn ⟨rfl, hb⟩; replace hB := hB.trans (hb.mono hB.size); clear hb))
      | (go_at_call 31; first | ((with_reducible refine (SC'.out _ (HL.out.below hLT hB)).mono ?_); rintro e wn ⟨rfl, hb⟩; replace hB := hB.trans (hb.mono hB.size); clear hb) | ((with_reducible refine (S9'.out _ (HL.out.below hLT hB)).mono ?_); rintro e wn ⟨rfl, hb⟩; replace hB := hB.trans (hb.mono hB.size); clear hb))
      | (at_make; refine wpList_make_want _ (by rfl) _ _ 49 rfl _ 5 i0 (.int .u8 0) 1 Tryd.underlying49 hi hz0 hz1 .i64 .i64 _ _ N rfl rfl rfl rfl (by rw [hz2]; omega) (by unfold maxLen; omega) (Nat.le_refl _) ?_; intro wm hown hgrow; replace hB := hB.grown hgrow hB.size (fun _ e => by cases e); have hcv := C1.out _ _ _ hown; clear hown hgrow)
      | (go_at_call 15; (with_reducible refine (MK'.out _ (HL.out.below hLT hB)).mono ?_); rintro e wn ⟨rfl, hb⟩; replace hB := hB.trans (hb.mono hB.size); clear hb)
      | (go_at_call 10; (with_reducible refine (AW.out _ (HL.out.below hLT hB)).mono ?_); rintro e wn ⟨rfl, hb⟩; replace hB := hB.trans (hb.mono hB.size); clear hb))
    go_ret
    exact ⟨rfl, hB⟩
  · have hx : ((c : Int) != (d : Int)) = true := by simp only [bne_iff_ne, ne_eq]; omega
    have hne := hpre hcd
    clear hcd hpre
    by_cases hlen : s.size ≤ u.size
    · have hl1 : (s.size : Int) ≤ (u.size : Int) := by omega
      have hl0 : (0 : Int) ≤ (s.size : Int) := by omega
      have hq := other_str (a := s) (b := u.extract 0 s.size) (fun e => hne e.symm)
      clear hne
      go_enter Tryd.func8, Tryd.ntmps8
      go_wp2_with (first
        | (go_at_call 18; first | ((with_reducible refine (MA'.out _).mono ?_); rintro e w3 ⟨rfl, rfl⟩) | ((with_reducible refine (MB'.out _).mono ?_); rintro e w3 ⟨rfl, rfl⟩))
        | (go_at_call 27; first | ((with_reducible refine (CC'.out _ (HL.out.below hLT hB)).mono ?_); rintro e wn ⟨rfl, hb⟩; replace hB := hB.trans (hb.mono hB.size); clear hb) | ((with_reducible refine (CD'.out _ (HL.out.below hLT hB)).mono ?_); rintro e wn ⟨rfl, hb⟩; replace hB := hB.trans (hb.mono hB.size); clear hb) | ((with_reducible refine (CZ'.out _ (HL.out.below hLT hB)).mono ?_); rintro e wn ⟨rfl, hb⟩; replace hB := hB.trans (hb.mono hB.size); clear hb))
        | (go_at_call 29; first | ((with_reducible refine (RC'.out _ (HL.out.below hLT hB)).mono ?_); rintro e wn ⟨rfl, hb⟩; replace hB := hB.trans (hb.mono hB.size); clear hb) | ((with_reducible refine (RZ'.out _ (HL.out.below hLT hB)).mono ?_); rintro e wn ⟨rfl, hb⟩; replace hB := hB.trans (hb.mono hB.size); clear hb))
        | (go_at_call 31; first | ((with_reducible refine (SC'.out _ (HL.out.below hLT hB)).mono ?_); rintro e wn ⟨rfl, hb⟩; replace hB := hB.trans (hb.mono hB.size); clear hb) | ((with_reducible refine (S9'.out _ (HL.out.below hLT hB)).mono ?_); rintro e wn ⟨rfl, hb⟩; replace hB := hB.trans (hb.mono hB.size); clear hb))
        | (at_make; refine wpList_make_want _ (by rfl) _ _ 49 rfl _ 5 i0 (.int .u8 0) 1 Tryd.underlying49 hi hz0 hz1 .i64 .i64 _ _ N rfl rfl rfl rfl (by rw [hz2]; omega) (by unfold maxLen; omega) (Nat.le_refl _) ?_; intro wm hown hgrow; replace hB := hB.grown hgrow hB.size (fun _ e => by cases e); have hcv := C1.out _ _ _ hown; clear hown hgrow)
        | (go_at_call 15; (with_reducible refine (MK'.out _ (HL.out.below hLT hB)).mono ?_); rintro e wn ⟨rfl, hb⟩; replace hB := hB.trans (hb.mono hB.size); clear hb)
        | (go_at_call 10; (with_reducible refine (AW.out _ (HL.out.below hLT hB)).mono ?_); rintro e wn ⟨rfl, hb⟩; replace hB := hB.trans (hb.mono hB.size); clear hb))
      go_ret
      exact ⟨rfl, hB⟩
    · have hl1 : ¬ (s.size : Int) ≤ (u.size : Int) := by omega
      clear hne
      go_enter Tryd.func8, Tryd.ntmps8
      go_wp2_with (first
        | (go_at_call 18; first | ((with_reducible refine (MA'.out _).mono ?_); rintro e w3 ⟨rfl, rfl⟩) | ((with_reducible refine (MB'.out _).mono ?_); rintro e w3 ⟨rfl, rfl⟩))
        | (go_at_call 27; first | ((with_reducible refine (CC'.out _ (HL.out.below hLT hB)).mono ?_); rintro e wn ⟨rfl, hb⟩; replace hB := hB.trans (hb.mono hB.size); clear hb) | ((with_reducible refine (CD'.out _ (HL.out.below hLT hB)).mono ?_); rintro e wn ⟨rfl, hb⟩; replace hB := hB.trans (hb.mono hB.size); clear hb) | ((with_reducible refine (CZ'.out _ (HL.out.below hLT hB)).mono ?_); rintro e wn ⟨rfl, hb⟩; replace hB := hB.trans (hb.mono hB.size); clear hb))
        | (go_at_call 29; first | ((with_reducible refine (RC'.out _ (HL.out.below hLT hB)).mono ?_); rintro e wn ⟨rfl, hb⟩; replace hB := hB.trans (hb.mono hB.size); clear hb) | ((with_reducible refine (RZ'.out _ (HL.out.below hLT hB)).mono ?_); rintro e wn ⟨rfl, hb⟩; replace hB := hB.trans (hb.mono hB.size); clear hb))
        | (go_at_call 31; first | ((with_reducible refine (SC'.out _ (HL.out.below hLT hB)).mono ?_); rintro e wn ⟨rfl, hb⟩; replace hB := hB.trans (hb.mono hB.size); clear hb) | ((with_reducible refine (S9'.out _ (HL.out.below hLT hB)).mono ?_); rintro e wn ⟨rfl, hb⟩; replace hB := hB.trans (hb.mono hB.size); clear hb))
        | (at_make; refine wpList_make_want _ (by rfl) _ _ 49 rfl _ 5 i0 (.int .u8 0) 1 Tryd.underlying49 hi hz0 hz1 .i64 .i64 _ _ N rfl rfl rfl rfl (by rw [hz2]; omega) (by unfold maxLen; omega) (Nat.le_refl _) ?_; intro wm hown hgrow; replace hB := hB.grown hgrow hB.size (fun _ e => by cases e); have hcv := C1.out _ _ _ hown; clear hown hgrow)
        | (go_at_call 15; (with_reducible refine (MK'.out _ (HL.out.below hLT hB)).mono ?_); rintro e wn ⟨rfl, hb⟩; replace hB := hB.trans (hb.mono hB.size); clear hb)
        | (go_at_call 10; (with_reducible refine (AW.out _ (HL.out.below hLT hB)).mono ?_); rintro e wn ⟨rfl, hb⟩; replace hB := hB.trans (hb.mono hB.size); clear hb))
      go_ret
      exact ⟨rfl, hB⟩

end Go.Proofs.YteammnfdhdhefaaDoor
