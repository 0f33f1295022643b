/- The document's public key of a seed. -/
import Derived.Test.YtpophimnoakinaaDoorKrl
namespace Go.Proofs.YtpophimnoakinaaDoor
open Go.ChangeShapes Go.WideShapes Go.ChangeAt Go.RowKit
set_option linter.unusedVariables false
set_option linter.unusedSimpArgs false

/-- The level with number k of a tree in memory. -/
theorem tree_at {w : World} {B : Nat} {seed : ByteArray} {v : Value} {vs : List Value} (hO : w.ownsRow B 30 1 v 4 vs) (hL : LvsAt w B seed vs) (k : Nat) (hk : k < 4) :
    ∃ u, vs[k]? = some u ∧ LvAt w B seed k u := by
  have hl : vs.length = 4 := by have := hO.1; omega
  exact ⟨_, List.getElem?_eq_getElem (by omega), hL k _ (List.getElem?_eq_getElem (by omega))⟩
set_option maxHeartbeats 1600000 in
set_option maxRecDepth 100000 in
theorem rpublic12_any (seed : ByteArray) (w : World) (hs : seed.size ≤ 999990) : Calls Tryd.prog 11 #[.string seed] w fun e w' => e = .returned (.string (pkB seed)) ∧ Below w.heap.size w w' := by
  have hts := lvB_size seed 3 0
  unfold pkB topB
  obtain ⟨t, ht⟩ : ∃ t, t = lvB seed 3 0 := ⟨_, rfl⟩
  have L3 : lvS seed 3 1 = [.string t] := by rw [ht]; rfl
  rw [← ht] at hts ⊢
  clear ht
  unfold smB
  obtain ⟨q, hq⟩ : ∃ q : ByteArray, { data := #[2] } ++ t = q := ⟨_, rfl⟩
  have hqs : q.size ≤ 100 := by rw [← hq, ByteArray.size_append]; show 1 + t.size ≤ 100; omega
  rw [hq]
  have SM := Lib.hid (fun wx => rsum_any q wx (by omega))
  have LV := Lib.hid (rlevels_any seed w hs)
  go_enter Tryd.func11, Tryd.ntmps11
  go_wp2_with (first
    | (go_at_call 32; (with_reducible refine LV.out.mono ?_); rintro e w1 ⟨v, vs, rfl, hO, hL, hB⟩
       obtain ⟨u, hu, hLu⟩ := tree_at hO hL 3 (by decide)
       obtain ⟨g, cap, rfl, hg, hc, hm, hrow⟩ := own_some hO (by decide)
       obtain ⟨g3, cap3, rfl, hg3, hc3, hm3, hrow3⟩ := hLu
       have c1 := hrow.cellAt hu
       have c2 := hrow3.cellAt (show (lvS seed 3 (lvN 3))[0]? = some (.string t) by rw [show lvN 3 = 1 from rfl, L3]; rfl)
       have hl3 : lvN 3 = 1 := rfl
       rw [hl3] at c1
       clear hO hL hrow hrow3 hu)
    | (go_at_call 24; (with_reducible refine (SM.out _).mono ?_); rintro e w3 ⟨rfl, hb3⟩))
  go_ret
  exact ⟨rfl, hB.trans (hb3.mono hB.size)⟩
end Go.Proofs.YtpophimnoakinaaDoor
/- The document's signature. -/
namespace Go.Proofs.YtpophimnoakinaaDoor
open Go.ChangeShapes Go.WideShapes Go.ChangeAt Go.RowKit
set_option linter.unusedVariables false
set_option linter.unusedSimpArgs false

/-- A signature's first parts. -/
def sgP (seed : ByteArray) (u : Nat) (m : ByteArray) : Nat → ByteArray
  | 0 => oneB u ++ signB (useB seed u) m
  | k + 1 => sgP seed u m k ++ besB seed u k
theorem sgP_three (seed : ByteArray) (u : Nat) (m : ByteArray) : sgP seed u m 3 = sgB seed u m := rfl
theorem sgP_size (seed : ByteArray) (u : Nat) (m : ByteArray) (k : Nat) : (sgP seed u m k).size = 577 + 16 * k := by
  induction k with
  | zero => show (oneB u ++ signB (useB seed u) m).size = _; rw [ByteArray.size_append, signB_size]; rfl
  | succ k ih => show (sgP seed u m k ++ besB seed u k).size = _; rw [ByteArray.size_append, ih]; show _ + (lvB _ _ _).size = _; rw [lvB_size]; omega
theorem besN_lt (u k : Nat) (hu : u < 8) (hk : k < 3) : besN u k < lvN k := by
  have : ∀ u : Fin 8, ∀ k : Fin 3, besN u.1 k.1 < lvN k.1 := by decide
  exact this ⟨u, hu⟩ ⟨k, hk⟩
theorem one_convg (u : Int) (hu : 0 ≤ u ∧ u < 8) (w : World) (g : Nat) (h0 : w.heap[g]? = some (.cells #[.int .u8 u] 5)) : (convert 35 9 (.slice (some ⟨g, 0, none⟩) 1 1)).run Tryd.prog w = .ok (.string (oneB u)) w := by
  have h : w.heap[g]? = some (.cells #[.int .u8 (u % 256)] 5) := by
    rw [show u % 256 = u by omega]; exact h0
  obtain ⟨F, hF⟩ : ∃ F, F = [byteI u] := ⟨_, rfl⟩
  have hrow : Row w g 5 1 (F.map fun b => Value.int .u8 (b.toNat : Int)) := by
    have hv : bytesV [byteI u] = [Value.int .u8 (u % 256)] := by simp only [bytesV, List.map_cons, List.map_nil, byteI_val]
    rw [show (F.map fun b => Value.int .u8 (b.toNat : Int)) = bytesV F from rfl, hF, hv]
    exact ⟨_, _, h, by simp, by simp, by simp, .inl rfl⟩
  have hcv := conv_row (P := Tryd.prog) _ 35 9 5 g 5 1 1 F (by rw [hF]; rfl) hrow Tryd.underlying35 Tryd.underlying5 Tryd.underlying9
  rwa [oneB_of u hF] at hcv
theorem bes_bits (u j : Nat) (hu : u < 8) (hj : j < 3) : bits BinOp.xor IntKind.i64 ((u : Int) / 2 ^ j) 1 = ((besN u j : Nat) : Int) := by
  have : ∀ u : Fin 8, ∀ j : Fin 3, bits BinOp.xor IntKind.i64 (((u.1 : Nat) : Int) / 2 ^ j.1) 1 = ((besN u.1 j.1 : Nat) : Int) := by decide
  exact this ⟨u, hu⟩ ⟨j, hj⟩
set_option maxRecDepth 100000 in
theorem rsign12_no (seed m : ByteArray) (u : Int) (w : World) (hu : u < 0 ∨ 8 ≤ u) : Calls Tryd.prog 18 #[.string seed, .int .i64 u, .string m] w fun e w' => e = .returned (.tuple #[.string ⟨#[]⟩, .int .i64 25]) ∧ Below w.heap.size w w' := by
  by_cases h0 : u < 0
  · go_enter Tryd.func18, Tryd.ntmps18
    go_wp2
    go_ret2
    exact ⟨rfl, Below.refl _ _⟩
  · have h8 : 8 ≤ u := by omega
    go_enter Tryd.func18, Tryd.ntmps18
    go_wp2
    go_ret2
    exact ⟨rfl, Below.refl _ _⟩
set_option maxHeartbeats 1600000 in
set_option maxRecDepth 100000 in
theorem rsign12_ok (seed m : ByteArray) (u : Nat) (w : World) (hs : seed.size ≤ 999990) (hm : m.size ≤ 999990) (hu : u < 8) : Calls Tryd.prog 18 #[.string seed, .int .i64 u, .string m] w fun e w' => e = .returned (.tuple #[.string (sgB seed u m), .int .i64 0]) ∧ Below w.heap.size w w' := by
  have hcv := fun w g => one_convg (u : Int) (by omega) w g
  have h1 : (oneB u).size = 1 := rfl
  have SC := Lib.hid (fun wx => rsecret12_any seed u wx hs)
  have SG := Lib.hid (fun wx => rsign_b (useB seed u) m wx (by rw [useB_size]; decide) hm)
  have LV := Lib.hid (fun wx => rlevels_any seed wx hs)
  have hz := signB_size (useB seed u) m
  obtain ⟨S, hS⟩ : ∃ S : Nat → ByteArray, S = sgP seed u m := ⟨_, rfl⟩
  have HS : Hid (∀ k, S (k + 1) = S k ++ lvB seed k (besN u k)) := Lib.hid (by rw [hS]; intro k; rfl)
  have S0 : oneB u ++ signB (useB seed u) m = S 0 := by rw [hS]; rfl
  rw [← sgP_three, ← hS]
  have SZ : Hid (∀ k, (S k).size = 577 + 16 * k) := Lib.hid (by rw [hS]; exact sgP_size seed u m)
  clear hS
  obtain ⟨o1, ho1⟩ : ∃ t, t = oneB u := ⟨_, rfl⟩
  obtain ⟨q, hq⟩ : ∃ t, t = useB seed u := ⟨_, rfl⟩
  rw [← ho1] at hcv h1 S0
  rw [← hq] at SC SG hz S0
  obtain ⟨s, hse⟩ : ∃ t, t = signB q m := ⟨_, rfl⟩
  rw [← hse] at SG hz S0
  clear ho1 hq hse
  have hu0 : ¬ ((u : Int) < 0) := by omega
  have hu8 : ¬ ((8 : Int) ≤ (u : Int)) := by omega
  have CV := Lib.hid hcv
  clear hcv
  go_enter Tryd.func18, Tryd.ntmps18
  go_upto_region 3 with fail
  refine wp_region_plan (fun w' => True) [] (.take 0 (.take 1 (.take 4 (.take 5 (.take 7 (Plan.join true (.ask 2 false (.ask 3 false (.ask 6 false (.ask 8 false .stop .stop) .stop) (.ask 6 false (.ask 3 false (.ask 8 false .stop .stop) (.ask 8 false (.ask 3 false .stop .stop) .stop)) .stop)) (.ask 6 false (.ask 2 false (.ask 3 false (.ask 8 false .stop .stop) (.ask 8 false (.ask 3 false .stop .stop) .stop)) (.ask 8 false (.ask 2 false (.ask 3 false .stop .stop) .stop) .stop)) .stop)) (.take 9 (.take 10 .stop)))))))) (by kernel_rfl) (by kernel_rfl) (fun _ d _ _ _ h => by cases d <;> exact h) trivial ?_
  have hbd : Below w.heap.size w w.drew := (Below.refl w.heap.size w).drew
  generalize w.drew = wd at hbd ⊢
  refine take_any _ ?_ rfl rfl ?_ (fun K hK => ?_); rotate_left; (intro w0; go_simp; (try rfl)); (go_simp; refine hK _ ?_; clear hK K)
  refine take_any _ ?_ rfl rfl ?_ (fun K hK => ?_); rotate_left; (intro w0; go_simp; (try rfl)); (go_simp; refine hK _ ?_; clear hK K)
  refine take_any _ ?_ rfl rfl ?_ (fun K hK => ?_); rotate_left; (intro w0; go_simp; (try rfl)); (go_simp; refine hK _ ?_; clear hK K)
  refine take_any _ ?_ rfl rfl ?_ (fun K hK => ?_); rotate_left; (intro w0; go_simp; (try rfl)); (go_simp; refine hK _ ?_; clear hK K)
  refine take_any _ ?_ rfl rfl ?_ (fun K hK => ?_); rotate_left; (intro w0; go_simp; (try rfl)); (go_simp; refine hK _ ?_; clear hK K)
  refine plan_cut [19, 20, 23, 25] (fun vs wx => ∃ v19, vs = [v19, .string o1, .string q, .string s] ∧ Below w.heap.size w wx) ?_ ?_
  · skip
    refine ask_late _ rfl ?_ ?_
    rotate_left
    · skip
      go_wp2_with fail
      have ka1 := heap_alloc_new wd (.cells #[.int .u8 (u : Int)] 5)
      have ba1 := hbd.alloc (o := (.cells #[.int .u8 (u : Int)] 5)) hbd.size
      generalize World.alloc wd (.cells #[.int .u8 (u : Int)] 5) = wa1 at ka1 ba1 ⊢
      refine Seg.mk ?_
      refine ask_late _ rfl ?_ ?_
      rotate_left
      · skip
        have hcv2 := CV.out wa1 _ ka1
        go_wp2_with fail
        refine Seg.mk ?_
        refine ask_late _ rfl trivial ?_
        go_wp2_with (go_at_call 29; (with_reducible refine (SC.out _).mono ?_); rintro e w3 ⟨rfl, hb3⟩)
        refine Seg.mk ?_
        have B3 := ba1.trans (hb3.mono ba1.size)
        have ka3 := (hb3.block _ (lt_of_block ka1)).trans ka1
        refine ask_late _ rfl trivial ?_
        go_wp2_with (go_at_call 41; (with_reducible refine (SG.out _).mono ?_); rintro e w4 ⟨rfl, hb4⟩)
        refine Seg.mk ?_
        have B4 := B3.trans (hb4.mono B3.size)
        have ka4 := (hb4.block _ (lt_of_block ka3)).trans ka3
        exact plan_meet [.slice (some ⟨wd.heap.size, 0, none⟩) 1 1, .string o1, .string q, .string s] (by first | exact ⟨_, rfl, B4⟩ | exact ⟨⟨_, rfl⟩, B4⟩) rfl
      · skip
        refine ask_late _ rfl trivial ?_
        go_wp2_with (go_at_call 29; (with_reducible refine (SC.out _).mono ?_); rintro e w5 ⟨rfl, hb5⟩)
        refine Seg.mk ?_
        have B5 := ba1.trans (hb5.mono ba1.size)
        have ka5 := (hb5.block _ (lt_of_block ka1)).trans ka1
        refine ask_late _ rfl ?_ ?_
        rotate_left
        · skip
          have hcv6 := CV.out w5 _ ka5
          go_wp2_with fail
          refine Seg.mk ?_
          refine ask_late _ rfl trivial ?_
          go_wp2_with (go_at_call 41; (with_reducible refine (SG.out _).mono ?_); rintro e w7 ⟨rfl, hb7⟩)
          refine Seg.mk ?_
          have B7 := B5.trans (hb7.mono B5.size)
          have ka7 := (hb7.block _ (lt_of_block ka5)).trans ka5
          exact plan_meet [.slice (some ⟨wd.heap.size, 0, none⟩) 1 1, .string o1, .string q, .string s] (by first | exact ⟨_, rfl, B7⟩ | exact ⟨⟨_, rfl⟩, B7⟩) rfl
        · skip
          refine ask_late _ rfl trivial ?_
          go_wp2_with (go_at_call 41; (with_reducible refine (SG.out _).mono ?_); rintro e w8 ⟨rfl, hb8⟩)
          refine Seg.mk ?_
          have B8 := B5.trans (hb8.mono B5.size)
          have ka8 := (hb8.block _ (lt_of_block ka5)).trans ka5
          refine ask_late _ rfl trivial ?_
          have hcv9 := CV.out w8 _ ka8
          go_wp2_with fail
          refine Seg.mk ?_
          exact plan_meet [.slice (some ⟨wd.heap.size, 0, none⟩) 1 1, .string o1, .string q, .string s] (by first | exact ⟨_, rfl, B8⟩ | exact ⟨⟨_, rfl⟩, B8⟩) rfl
    · skip
      refine ask_late _ rfl trivial ?_
      go_wp2_with (go_at_call 29; (with_reducible refine (SC.out _).mono ?_); rintro e w10 ⟨rfl, hb10⟩)
      refine Seg.mk ?_
      have B10 := hbd.trans (hb10.mono hbd.size)
      refine ask_late _ rfl ?_ ?_
      rotate_left
      · skip
        go_wp2_with fail
        have ka11 := heap_alloc_new w10 (.cells #[.int .u8 (u : Int)] 5)
        have ba11 := B10.alloc (o := (.cells #[.int .u8 (u : Int)] 5)) B10.size
        generalize World.alloc w10 (.cells #[.int .u8 (u : Int)] 5) = wa11 at ka11 ba11 ⊢
        refine Seg.mk ?_
        refine ask_late _ rfl ?_ ?_
        rotate_left
        · skip
          have hcv12 := CV.out wa11 _ ka11
          go_wp2_with fail
          refine Seg.mk ?_
          refine ask_late _ rfl trivial ?_
          go_wp2_with (go_at_call 41; (with_reducible refine (SG.out _).mono ?_); rintro e w13 ⟨rfl, hb13⟩)
          refine Seg.mk ?_
          have B13 := ba11.trans (hb13.mono ba11.size)
          have ka13 := (hb13.block _ (lt_of_block ka11)).trans ka11
          exact plan_meet [.slice (some ⟨w10.heap.size, 0, none⟩) 1 1, .string o1, .string q, .string s] (by first | exact ⟨_, rfl, B13⟩ | exact ⟨⟨_, rfl⟩, B13⟩) rfl
        · skip
          refine ask_late _ rfl trivial ?_
          go_wp2_with (go_at_call 41; (with_reducible refine (SG.out _).mono ?_); rintro e w14 ⟨rfl, hb14⟩)
          refine Seg.mk ?_
          have B14 := ba11.trans (hb14.mono ba11.size)
          have ka14 := (hb14.block _ (lt_of_block ka11)).trans ka11
          refine ask_late _ rfl trivial ?_
          have hcv15 := CV.out w14 _ ka14
          go_wp2_with fail
          refine Seg.mk ?_
          exact plan_meet [.slice (some ⟨w10.heap.size, 0, none⟩) 1 1, .string o1, .string q, .string s] (by first | exact ⟨_, rfl, B14⟩ | exact ⟨⟨_, rfl⟩, B14⟩) rfl
      · skip
        refine ask_late _ rfl trivial ?_
        go_wp2_with (go_at_call 41; (with_reducible refine (SG.out _).mono ?_); rintro e w16 ⟨rfl, hb16⟩)
        refine Seg.mk ?_
        have B16 := B10.trans (hb16.mono B10.size)
        refine ask_late _ rfl trivial ?_
        go_wp2_with fail
        have ka17 := heap_alloc_new w16 (.cells #[.int .u8 (u : Int)] 5)
        have ba17 := B16.alloc (o := (.cells #[.int .u8 (u : Int)] 5)) B16.size
        generalize World.alloc w16 (.cells #[.int .u8 (u : Int)] 5) = wa17 at ka17 ba17 ⊢
        refine Seg.mk ?_
        refine ask_late _ rfl trivial ?_
        have hcv18 := CV.out wa17 _ ka17
        go_wp2_with fail
        refine Seg.mk ?_
        exact plan_meet [.slice (some ⟨w16.heap.size, 0, none⟩) 1 1, .string o1, .string q, .string s] (by first | exact ⟨_, rfl, ba17⟩ | exact ⟨⟨_, rfl⟩, ba17⟩) rfl
  rintro vs wr ⟨v19, rfl, hbr⟩
  simp only [puts, Act.put, List.setIfInBounds_toArray, List.set_cons_zero, List.set_cons_succ]
  refine take_any _ ?_ rfl rfl ?_ (fun K hK => ?_); rotate_left; (intro w0; go_simp; (try rfl)); (go_simp; refine hK _ ?_; clear hK K)
  refine take_any _ ?_ rfl rfl ?_ (fun K hK => ?_); rotate_left; (intro w0; go_simp; (try rfl)); (go_simp; refine hK _ ?_; clear hK K)
  unfold wpPlan
  clear hbd
  go_wp2_with (go_at_call 32; (with_reducible refine (LV.out _).mono ?_); rintro e w3 ⟨v, vs, rfl, hO, hL, hB⟩)
  have hB3 := hbr.trans (hB.mono hbr.size)
  obtain ⟨g, cap, rfl, hg, hc, hm2, hrow⟩ := own_some hO (by decide)
  have HROW := Lib.hid hrow
  have HL := Lib.hid hL
  have HO := Lib.hid hO
  clear hrow hL hO hB hbr S0
  go_loopw [8, 10] (fun s k wr => ∃ j : Nat, j ≤ 3 ∧ s = .string (S j) ∧ k = .int .i64 j ∧ Below w3.heap.size w3 wr) (fun _ k _ => 3 - (intOf k).toNat)
  case atStart => exact ⟨0, by omega, rfl, rfl, Below.refl _ _⟩
  case round =>
    obtain ⟨j, hj, rfl, rfl, hbr⟩ := hrel
    obtain ⟨lv, hlv, hLv⟩ := tree_at (owns_below HO.out hbr) (HL.out.below hbr) j (by omega)
    have c1 := (HROW.out.below hbr HROW.out.lt).cellAt hlv
    obtain ⟨gj, capj, rfl, hgj, hcj, hmj, hrowj⟩ := hLv
    have hj4 : (j : Int) < 4 := by omega
    by_cases h3 : j < 3
    · have hn1 : 1 < lvN j := by
        rcases (by omega : j = 0 ∨ j = 1 ∨ j = 2) with rfl | rfl | rfl <;> decide
      have c2 := hrowj.cellAt (lvS_get seed j (lvN j) (besN u j) (besN_lt u j hu h3))
      have hb2 := besN_lt u j hu h3
      have hst := HS.out j
      have HX := bes_bits u j hu h3
      obtain ⟨b, hb⟩ : ∃ b, b = besN u j := ⟨_, rfl⟩
      obtain ⟨n, hn⟩ : ∃ n, n = lvN j := ⟨_, rfl⟩
      obtain ⟨y, hy⟩ : ∃ y, y = lvB seed j b := ⟨_, rfl⟩
      rw [← hb] at c2 hb2 hst HX
      rw [← hn] at c1 hn1 hb2
      rw [← hy] at c2 hst
      have hni : (1 : Int) < (n : Int) := by omega
      have hbi : (b : Int) < (n : Int) := by omega
      have hst2 := hst.symm
      have hys : y.size ≤ 100 := by rw [hy, lvB_size]; decide
      have hss : (S j).size ≤ 1000 := by rw [SZ.out j]; omega
      clear hrowj hlv hb hn hy hst hgj hcj hmj
      go_wp2
      go_roundw
      case rel => exact ⟨j + 1, by omega, rfl, by go_num, hbr⟩
      case measure => simp [intOf]; omega
    · obtain rfl : j = 3 := by omega
      rw [show lvN 3 = 1 from rfl] at c1
      go_wp2
      go_ret2
      exact ⟨rfl, hB3.trans (hbr.mono hB3.size)⟩
end Go.Proofs.YtpophimnoakinaaDoor
