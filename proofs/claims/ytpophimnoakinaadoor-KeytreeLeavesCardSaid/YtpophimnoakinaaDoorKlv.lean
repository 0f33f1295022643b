/- The walk of KeytreeLeaves: the public key is made of the leaves, pair by pair, and a signature carries the ones beside its way. -/
import Derived.Test.YtpophimnoakinaaDoorKlw
namespace Go.Proofs.YtpophimnoakinaaDoor
open Go.ChangeShapes Go.WideShapes Go.ChangeAt Go.RowKit
set_option linter.unusedVariables false
set_option linter.unusedSimpArgs false

/-- The nodes that a signature carries. -/
theorem sg_bes (seed : ByteArray) (u : Nat) (m : ByteArray) (j : Nat) (hj : j < 3) : (sgB seed u m).extract (577 + 16 * j) (593 + 16 * j) = besB seed u j := by
  have s0 : (oneB u).size = 1 := rfl
  have s1 := signB_size (useB seed u) m
  have b0 : (besB seed u 0).size = 16 := lvB_size _ _ _
  have b1 : (besB seed u 1).size = 16 := lvB_size _ _ _
  have b2 : (besB seed u 2).size = 16 := lvB_size _ _ _
  rcases (by omega : j = 0 ∨ j = 1 ∨ j = 2) with rfl | rfl | rfl
  · show (sgB seed u m).extract 577 593 = besB seed u 0
    unfold sgB
    rw [ByteArray.append_assoc (c := besB seed u 2)]
    exact cat_mid _ _ _ 577 593 (by rw [ByteArray.size_append]; omega) (by omega)
  · show (sgB seed u m).extract 593 609 = besB seed u 1
    unfold sgB
    exact cat_mid _ _ _ 593 609 (by rw [ByteArray.size_append, ByteArray.size_append]; omega) (by omega)
  · show (sgB seed u m).extract 609 625 = besB seed u 2
    unfold sgB
    exact cat_end _ _ 609 625 (by rw [ByteArray.size_append, ByteArray.size_append, ByteArray.size_append]; omega) (by omega)
theorem bes_bitsN (u j : Nat) (hu : u < 8) (hj : j < 3) : bits BinOp.xor IntKind.i64 ((u / 2 ^ j : Nat) : Int) 1 = ((besN u j : Nat) : Int) := by
  have : ∀ u : Fin 8, ∀ j : Fin 3, bits BinOp.xor IntKind.i64 ((u.1 / 2 ^ j.1 : Nat) : Int) 1 = ((besN u.1 j.1 : Nat) : Int) := by decide
  exact this ⟨u, hu⟩ ⟨j, hj⟩
set_option maxHeartbeats 3200000 in
set_option maxRecDepth 100000 in
theorem leaves12_walk (seed m : ByteArray) (use : Int) (w : World) (h1 : -9223372036854775808 ≤ use) (h2 : use ≤ 9223372036854775807) (hK : Ktab w) :
    Calls Tryd.prog 5 #[.string seed, .string m, .int .i64 use] w fun e w' => e = .returned (.bool true) ∧ Below w.heap.size w w' := by
  obtain ⟨i0, hi, hz0, hz1, hz2⟩ := info_parts Tryd.infostr
  have HI := Lib.hid (And.intro hi (And.intro hz0 (And.intro hz1 hz2)))
  clear hi hz0 hz1 hz2
  have AW := Lib.hid (fun (wx : World) (h : Ktab wx) => awake12_any wx h)
  have HK := Lib.hid hK
  clear hK
  by_cases k1 : 100 < seed.size
  · have h1i : (100 : Int) < (seed.size : Int) := by omega
    go_enter Tryd.func5, Tryd.ntmps5
    go_wp2_with (go_at_call 7; (with_reducible refine (AW.out _ HK.out).mono ?_); rintro e w1 ⟨rfl, hb1⟩)
    go_ret
    exact ⟨rfl, hb1⟩
  have h1i : ¬ (100 : Int) < (seed.size : Int) := by omega
  by_cases k2 : 200 < m.size
  · have h2i : (200 : Int) < (m.size : Int) := by omega
    go_enter Tryd.func5, Tryd.ntmps5
    go_wp2_with (go_at_call 7; (with_reducible refine (AW.out _ HK.out).mono ?_); rintro e w1 ⟨rfl, hb1⟩)
    go_ret
    exact ⟨rfl, hb1⟩
  have h2i : ¬ (200 : Int) < (m.size : Int) := by omega
  obtain ⟨k, hk⟩ : ∃ k : Nat, use % 8 = (k : Int) := ⟨(use % 8).toNat, by omega⟩
  have hk8 : k < 8 := by omega
  have MA := Lib.hid (fun wx : World => mod_any use 8 wx (by decide) (by decide) h1 h2)
  rw [show ((8 : Nat) : Int) = 8 from rfl, hk] at MA
  have A3 := Lib.hid (sign12_ok seed m k w (by omega) (by omega) hk8 HK.out.st)
  have LF := Lib.hid (fun (wx : World) (u : Int) (h : Ktab wx) => leaf12_any seed u wx (by omega) h.st)
  have PU := Lib.hid (fun (wx : World) (h : Ktab wx) => public12_any seed wx (by omega) h.st)
  have hz := sgB_size seed k m
  have SB : Hid (∀ j, j < 3 → (sgB seed k m).extract (577 + 16 * j) (593 + 16 * j) = lvB seed j (besN k j)) := Lib.hid (fun j hj => sg_bes seed k m j hj)
  have BN : Hid (∀ j, j < 3 → besN k j < lvN j ∧ bits BinOp.xor IntKind.i64 ((k / 2 ^ j : Nat) : Int) 1 = ((besN k j : Nat) : Int)) := Lib.hid (fun j hj => ⟨besN_lt k j hk8 hj, bes_bitsN k j hk8 hj⟩)
  have KH : Hid (∀ j, k / 2 ^ j / 2 = k / 2 ^ (j + 1)) := Lib.hid (fun j => by rw [Nat.pow_succ, Nat.div_div_eq_div_mul])
  have K0 : Hid ((k : Int) = ((k / 2 ^ 0 : Nat) : Int)) := Lib.hid (by simp)
  have KB : Hid (∀ j, k / 2 ^ j < 8) := Lib.hid (fun j => Nat.lt_of_le_of_lt (Nat.div_le_self _ _) hk8)
  obtain ⟨s, hs⟩ : ∃ s, s = sgB seed k m := ⟨_, rfl⟩
  rw [← hs] at A3 hz SB
  have t1 : ((s.size : Int) != 625) = false := by rw [hz]; rfl
  clear hs h1 h2 k1 k2 hk8 hk
  go_enter Tryd.func5, Tryd.ntmps5
  go_upto_region 9 with (first
    | (go_at_call 16; (with_reducible refine (MA.out _).mono ?_); rintro e w3 ⟨rfl, rfl⟩)
    | (go_at_call 17; (with_reducible refine A3.out.mono ?_); rintro e w1 ⟨rfl, hb1⟩))
  go_loopw [10, 41] (fun v i wr => ∃ j : Nat, ∃ ao cap, j ≤ 8 ∧ i = .int .i64 j ∧ v = .slice ao j cap ∧ wr.ownsRow w.heap.size 9 1 (.slice ao j cap) j (lvS seed 0 j) ∧ Below w.heap.size w wr) (fun _ i _ => 8 - (intOf i).toNat)
  case atStart => exact ⟨0, none, 0, Nat.zero_le _, rfl, rfl, World.ownsRow_nil _ _ _ _, hb1⟩
  case round =>
    clear hb1
    obtain ⟨j, ao, cap, hj, rfl, rfl, hr, hb⟩ := hrel
    by_cases hlt : j < 8
    · have L1 := Lib.hid (LF.out wr j (HK.out.below hb))
      have HL : Hid (lvS seed 0 j ++ [.string (leafB seed j)] = lvS seed 0 (j + 1)) := Lib.hid (by rw [lvS_succ]; rfl)
      obtain ⟨lf, hlf⟩ : ∃ lf, lf = leafB seed j := ⟨_, rfl⟩
      rw [← hlf] at L1 HL
      have hbs := hb.size
      clear hlf
      go_wp2_with (first
        | (go_at_call 8; (with_reducible refine L1.out.mono ?_); rintro e w1 ⟨rfl, hb1⟩; have hr1 := owns_below hr hb1; have hB1 := hb.trans (hb1.mono hb.size); have hbs1 := hB1.size; clear hr hb)
        | (at_builtin; refine wpList_append_own _ rfl (.tmp 44) (.tmp 48) 30 rfl w.heap.size 9 i0 (.string ⟨#[]⟩) 1 16 Tryd.underlying30 HI.out.1 HI.out.2.1 HI.out.2.2.1 HI.out.2.2.2 rfl (by decide) _ j _ rfl (hr1.alloc _) ⟨w1.heap.size, 0, none⟩ 1 1 [.string lf] rfl rfl (cells_new _ _ _ _ rfl) (by intro u hu; simp at hu; subst hu; rfl) (by unfold maxLen; omega) (by omega) (by simp; omega) ?_; intro v2 w2 hO2 hg2 _))
      obtain ⟨a2, c2, rfl, -, -⟩ := own_form hO2
      have hb2 := obelow (hB1.alloc (o := .cells #[.string lf] 9) (by omega)) (hr1.alloc _) hg2 (by simp; omega)
      rw [HL.out] at hO2
      clear hg2 hr1 hB1
      go_wp2
      go_roundw
      case rel => exact ⟨j + 1, a2, c2, by omega, by go_num, rfl, hO2, hb2⟩
      case measure => simp [intOf]; omega
    · obtain rfl : j = 8 := by omega
      obtain ⟨g0, cap0, hv0, hg0B, hc0, hm0, hrow0⟩ := own_some hr (by decide)
      obtain ⟨rfl, rfl⟩ : ao = some ⟨g0, 0, none⟩ ∧ cap = cap0 := by cases hv0; exact ⟨rfl, rfl⟩
      have hL0 : LvAt wr w.heap.size seed 0 (.slice (some ⟨g0, 0, none⟩) 8 cap) := ⟨g0, cap, rfl, hg0B, hc0, hm0, hrow0⟩
      clear hr hrow0 hv0
      go_upto_region 14 with fail
      obtain ⟨i8, hi8⟩ : ∃ i8 : Value, i8 = .int .i64 ((8 : Nat) : Int) := ⟨_, rfl⟩
      try rw [← hi8]
      try (rw [show (8 : Int) = ((8 : Nat) : Int) from rfl, ← hi8])
      clear hi8
      go_loopw [10, 12, 13] (fun l a e wr => ∃ (t gl capl : Nat), t ≤ 3 ∧ l = .slice (some ⟨gl, 0, none⟩) (lvN t) capl ∧ a = .int .i64 ((k / 2 ^ t : Nat) : Int) ∧ e = .int .i64 ((577 + 16 * t : Nat) : Int) ∧ LvAt wr w.heap.size seed t (.slice (some ⟨gl, 0, none⟩) (lvN t) capl) ∧ Below w.heap.size w wr) (fun _ _ e _ => 700 - (intOf e).toNat)
      case atStart => exact ⟨0, g0, cap, by omega, rfl, congrArg _ K0.out, rfl, hL0, hb⟩
      case round =>
        clear hL0 hb hg0B hc0 hm0
        obtain ⟨t, gl, capl, ht, rfl, rfl, rfl, hL, hB⟩ := hrel
        obtain ⟨gl', cl', hle, hglB, hcl, hclm, hrl⟩ := hL
        obtain ⟨rfl, rfl⟩ : gl = gl' ∧ capl = cl' := by cases hle; exact ⟨rfl, rfl⟩
        have hBs := hB.size
        by_cases hk3 : t < 3
        · have hn : lvN t = 2 * lvN (t + 1) ∧ 1 ≤ lvN (t + 1) ∧ lvN t ≤ 8 := by
            rcases (by omega : t = 0 ∨ t = 1 ∨ t = 2) with rfl | rfl | rfl <;> decide
          obtain ⟨hb1, hb2⟩ := BN.out t hk3
          have hsb := SB.out t hk3
          have hkh := KH.out t
          have hkb := KB.out t
          have hkb' := KB.out (t + 1)
          obtain ⟨n, hne⟩ : ∃ n, n = lvN t := ⟨_, rfl⟩
          obtain ⟨q, hqe⟩ : ∃ q, q = lvN (t + 1) := ⟨_, rfl⟩
          rw [← hne, ← hqe] at hn
          rw [← hne] at hcl hrl hb1 ⊢
          obtain ⟨b, hbe⟩ : ∃ b, b = besN k t := ⟨_, rfl⟩
          rw [← hbe] at hb1 hb2 hsb
          have cb := hrl.cellAt (lvS_get seed t n b hb1)
          obtain ⟨y, hye⟩ : ∃ y, y = lvB seed t b := ⟨_, rfl⟩
          rw [← hye] at cb hsb
          obtain ⟨a, hae⟩ : ∃ a, a = k / 2 ^ t := ⟨_, rfl⟩
          obtain ⟨a', hae'⟩ : ∃ a', a' = k / 2 ^ (t + 1) := ⟨_, rfl⟩
          rw [← hae] at hb2 hkh hkb ⊢
          rw [← hae'] at hkh hkb'
          obtain ⟨p1, hp1⟩ : ∃ p1, p1 = 577 + 16 * t := ⟨_, rfl⟩
          obtain ⟨p2, hp2⟩ : ∃ p2, p2 = 593 + 16 * t := ⟨_, rfl⟩
          rw [← hp1] at hsb ⊢
          rw [← hp2] at hsb
          have i1 : (p1 : Int) + 16 = (p2 : Int) := by omega
          have l1 : (p1 : Int) ≤ (p2 : Int) := by omega
          have l2 : p2 ≤ s.size := by omega
          have l3 : (p2 : Int) ≤ 625 := by omega
          have hn1 : (1 : Int) < (n : Int) := by omega
          have hbi : (b : Int) < (n : Int) := by omega
          have ty : (y.toList != y.toList) = false := by simp
          have WP : Hid (IntKind.i64.wrap (p2 : Int) = (p2 : Int)) := Lib.hid (by rw [IntKind.wrap_i64]; omega)
          have HN := Lib.hid hn
          have HNE := Lib.hid hne
          have HQE := Lib.hid hqe
          have HA' := Lib.hid hae'
          have HP2 := Lib.hid hp2
          have HP1 := Lib.hid hp1
          have HKH := Lib.hid hkh
          have HKB := Lib.hid hkb
          clear hn hne hqe hle hbe hye hae hae' hp1 hp2 hkh
          go_upto_region 15 with fail
          refine wp_region_plan (fun w' => w'.cell? ⟨gl, b, none⟩ = some (.string y)) [9] (.take 0 (.take 1 (.take 2 (.take 3 (.take 4 (.take 5 (.take 6 (.take 7 (.take 8 (.take 9 (.ask 10 false .stop .stop))))))))))) (by kernel_rfl) (by kernel_rfl) (fun _ d _ _ _ h => by cases d <;> exact h) cb ?_
          have hrld := hrl.drew
          have hBd := hB.drew
          have hBsd := hBd.size
          clear hrl hB hBs cb
          generalize wr.drew = wd at hrld hBd hBsd ⊢
          refine take_any _ ?_ rfl rfl ?_ (fun K hK => ?_); rotate_left; (intro w0; go_simp; (try rfl)); (go_simp; refine hK _ ?_; clear hK K)
          refine take_any _ ?_ rfl rfl ?_ (fun K hK => ?_); rotate_left; (intro w0; go_simp; (try rfl)); (go_simp; refine hK _ ?_; clear hK K)
          refine take_any _ ?_ rfl rfl ?_ (fun K hK => ?_); rotate_left; (intro w0; go_simp; (try rfl)); (go_simp; refine hK _ ?_; clear hK K)
          refine take_any _ ?_ rfl rfl ?_ (fun K hK => ?_); rotate_left; (intro w0; go_simp; (try rfl)); (go_simp; refine hK _ ?_; clear hK K)
          rw [WP.out]
          refine take_any _ ?_ rfl rfl ?_ (fun K hK => ?_); rotate_left; (intro w0; go_simp; (try rfl)); (go_simp; refine hK _ ?_; clear hK K)
          refine take_any _ ?_ rfl rfl ?_ (fun K hK => ?_); rotate_left; (intro w0; go_simp; (try rfl)); (go_simp; refine hK _ ?_; clear hK K)
          refine take_any _ ?_ rfl rfl ?_ (fun K hK => ?_); rotate_left; (intro w0; go_simp; (try rfl)); (go_simp; refine hK _ ?_; clear hK K)
          refine take_any _ ?_ rfl rfl ?_ (fun K hK => ?_); rotate_left; (intro w0; go_simp; (try rfl)); (go_simp; refine hK _ ?_; clear hK K)
          refine take_any _ ?_ rfl rfl ?_ (fun K hK => ?_); rotate_left; (intro w0; go_simp; (try rfl)); (go_simp; refine hK _ ?_; clear hK K)
          refine take_held _ ?_ rfl rfl (by decide) ?_ (fun K hK => ?_); rotate_left; (intro w0 hw0; go_simp; (try rfl)); (go_simp; refine hK _ ?_; clear hK K)
          refine ask_last _ rfl trivial ?_
          go_upto_region 19 with fail
          obtain ⟨W0, hW0⟩ : ∃ W0, W0 = wd := ⟨_, rfl⟩
          clear hb1 hb2 hsb ty l1 l2 l3 i1
          go_loopw [14, 15] (fun u i wi => ∃ (j p : Nat) (ao : Option Addr) (c : Nat), j ≤ q ∧ i = .int .i64 p ∧ Hid (p = 2 * j) ∧ u = .slice ao j c ∧ wi.ownsRow wd.heap.size 9 1 (.slice ao j c) j (lvS seed (t + 1) j) ∧ Below wd.heap.size wd wi) (fun _ i _ => n - (intOf i).toNat)
          case atStart => exact ⟨0, 0, none, 0, Nat.zero_le _, rfl, Lib.hid rfl, rfl, World.ownsRow_nil _ _ _ _, Below.refl _ _⟩
          case round =>
            obtain ⟨j, p, ao, c, hj, rfl, hp, rfl, hu, hI⟩ := hrel
            have hIs := hI.size
            by_cases hlt : j < q
            · have hpn : p + 1 < n := by have := HN.out.1; have := hp.out; omega
              have hrI := hrld.below hI hrld.lt
              have c1 := hrI.cellAt (lvS_get seed t n p (by omega))
              have c2 := hrI.cellAt (lvS_get seed t n (p + 1) (by omega))
              have hj8 : j ≤ 8 := by have := HN.out; omega
              have HV : Hid (lvS seed (t + 1) j ++ [.string (nodB (lvB seed t p) (lvB seed t (p + 1)))] = lvS seed (t + 1) (j + 1)) := Lib.hid (by rw [lvS_succ, hp.out]; rfl)
              have s1 := lvB_size seed t p
              have s2 := lvB_size seed t (p + 1)
              obtain ⟨x, hx⟩ : ∃ x, x = lvB seed t p := ⟨_, rfl⟩
              obtain ⟨z, hz⟩ : ∃ z, z = lvB seed t (p + 1) := ⟨_, rfl⟩
              rw [← hx] at c1 s1 HV
              rw [← hz] at c2 s2 HV
              have s1' : x.size ≤ 100 := by omega
              have s2' : z.size ≤ 100 := by omega
              obtain ⟨x1, hx1⟩ : ∃ x1 : ByteArray, { data := #[1] } ++ x = x1 := ⟨_, rfl⟩
              have x1s : x1.size ≤ 100 := by rw [← hx1, ByteArray.size_append, s1]; decide
              obtain ⟨x2, hx2⟩ : ∃ x2 : ByteArray, x1 ++ z = x2 := ⟨_, rfl⟩
              have x2s : x2.size ≤ 200 := by rw [← hx2, ByteArray.size_append]; omega
              have hnd : nodB x z = shB x2 := by unfold nodB; rw [hx1, hx2]
              have SH := Lib.hid (fun wx => rshort_b x2 wx (by omega))
              rw [hnd] at HV
              obtain ⟨r, hr⟩ : ∃ r, r = shB x2 := ⟨_, rfl⟩
              rw [← hr] at SH HV
              have hcn : (n : Int) ≤ 8 := by have := HN.out.2.2; omega
              obtain ⟨o, ho⟩ : ∃ o, o = p + 1 := ⟨_, rfl⟩
              have HW : Hid (IntKind.i64.wrap ((p : Int) + 1) = (o : Int)) := Lib.hid (by rw [IntKind.wrap_i64]; omega)
              rw [← ho] at c2 hpn
              have hoi : (o : Int) < (n : Int) := by omega
              have hpi : (p : Int) < (n : Int) := by omega
              have HU := Lib.hid hu
              have HII := Lib.hid hI
              clear ho hx hz hr hrI s1 s2 hu hI hnd
              go_upto_region 21 with fail
              refine wp_region_plan (fun w' => w'.cell? ⟨gl, p, none⟩ = some (.string x) ∧ w'.cell? ⟨gl, o, none⟩ = some (.string z)) [4, 10] (.take 0 (.take 1 (.take 2 (.take 3 (.take 4 (.take 5 (.take 6 (.take 7 (.take 8 (.take 9 (.take 10 (.ask 11 false (.ask 12 false (.ask 13 false (.ask 14 false (.take 15 .stop) .stop) .stop) .stop) .stop)))))))))))) (by kernel_rfl) (by kernel_rfl) (fun _ d _ _ _ h => by cases d <;> exact h) ⟨c1, c2⟩ ?_
              have hud : wr.drew.ownsRow wd.heap.size 9 1 (.slice ao j c) j (lvS seed (t + 1) j) := HU.out
              have hbd : Below wd.heap.size wd wr.drew := HII.out.drew
              have HUD := Lib.hid hud
              clear c1 c2 hud
              generalize wr.drew = we at HUD hbd ⊢
              refine take_any _ ?_ rfl rfl ?_ (fun K hK => ?_); rotate_left; (intro w0; go_simp; (try rfl)); (go_simp; refine hK _ ?_; clear hK K)
              refine take_any _ ?_ rfl rfl ?_ (fun K hK => ?_); rotate_left; (intro w0; go_simp; (try rfl)); (go_simp; refine hK _ ?_; clear hK K)
              refine take_any _ ?_ rfl rfl ?_ (fun K hK => ?_); rotate_left; (intro w0; go_simp; (try rfl)); (go_simp; refine hK _ ?_; clear hK K)
              refine take_any _ ?_ rfl rfl ?_ (fun K hK => ?_); rotate_left; (intro w0; go_simp; (try rfl)); (go_simp; refine hK _ ?_; clear hK K)
              refine take_held _ ?_ rfl rfl (by decide) ?_ (fun K hK => ?_); rotate_left; (intro w0 hw0; go_simp; (try rfl)); (go_simp; refine hK _ ?_; clear hK K)
              refine take_any _ ?_ rfl rfl ?_ (fun K hK => ?_); rotate_left; (intro w0; go_simp; (try rw [if_neg (by omega)]); (try rfl)); (go_simp; refine hK _ ?_; clear hK K)
              refine take_any _ ?_ rfl rfl ?_ (fun K hK => ?_); rotate_left; (intro w0; go_simp; (try rfl)); (go_simp; refine hK _ ?_; clear hK K)
              refine take_any _ ?_ rfl rfl ?_ (fun K hK => ?_); rotate_left; (intro w0; go_simp; (try rfl)); (go_simp; refine hK _ ?_; clear hK K)
              refine take_any _ ?_ rfl rfl ?_ (fun K hK => ?_); rotate_left; (intro w0; go_simp; (try rfl)); (go_simp; refine hK _ ?_; clear hK K)
              rw [HW.out]
              refine take_any _ ?_ rfl rfl ?_ (fun K hK => ?_); rotate_left; (intro w0; go_simp; (try rfl)); (go_simp; refine hK _ ?_; clear hK K)
              refine take_held _ ?_ rfl rfl (by decide) ?_ (fun K hK => ?_); rotate_left; (intro w0 hw0; go_simp; (try rfl)); (go_simp; refine hK _ ?_; clear hK K)
              refine ask_late _ rfl trivial ?_; go_wp2_with fail; refine Seg.mk ?_
              refine ask_late _ rfl trivial ?_; go_wp2_with (go_at_call 23; (with_reducible refine (SH.out _).mono ?_); rintro e w3 ⟨rfl, hb3⟩); refine Seg.mk ?_
              have hu3 := owns_below HUD.out hb3
              have B3 := hbd.trans (hb3.mono hbd.size)
              have B3s := B3.size
              refine ask_late _ rfl trivial ?_; go_wp2_with fail; refine Seg.mk ?_
              refine ask_late _ rfl trivial ?_
              go_wp2_with (at_builtin; refine wpList_append_own _ rfl (.tmp 72) (.tmp 85) 30 rfl wd.heap.size 9 i0 (.string ⟨#[]⟩) 1 16 Tryd.underlying30 HI.out.1 HI.out.2.1 HI.out.2.2.1 HI.out.2.2.2 rfl (by decide) _ j _ rfl (hu3.alloc _) ⟨w3.heap.size, 0, none⟩ 1 1 [.string r] rfl rfl (cells_new _ _ _ _ rfl) (by intro u hu; simp at hu; subst hu; rfl) (by unfold maxLen; omega) (by omega) (by simp; omega) ?_; intro v2 w4 hO2 hg2 _)
              obtain ⟨a2, c2, rfl, -, -⟩ := own_form hO2
              have hb4 := obelow (B3.alloc (o := .cells #[.string r] 9) B3s) (hu3.alloc _) hg2 (by simp; omega)
              rw [HV.out] at hO2
              refine Seg.mk ?_
              refine take_any _ ?_ rfl rfl ?_ (fun K hK => ?_); rotate_left; (intro w0; go_simp; (try rfl)); (go_simp; refine hK _ ?_; clear hK K)
              unfold wpPlan
              clear hg2 hu3 B3 B3s hbd
              go_wp2
              go_roundw
              case rel => exact ⟨j + 1, p + 2, a2, c2, by omega, by go_num, Lib.hid (by have := hp.out; omega), rfl, hO2, hb4⟩
              case measure => simp [intOf]; omega
            · obtain rfl : j = q := by omega
              obtain ⟨g1, c1, hv1, hg1, hc1, hm1, hrow1⟩ := own_some hu (by have := HN.out; omega)
              obtain ⟨rfl, rfl⟩ : ao = some ⟨g1, 0, none⟩ ∧ c = c1 := by cases hv1; exact ⟨rfl, rfl⟩
              have hp8 : ¬ (p < n) := by have := HN.out.1; have := hp.out; omega
              have hp9 : ¬ ((p : Int) < (n : Int)) := by omega
              have hB1 := hBd.trans (hI.mono hBsd)
              have hL1 : LvAt wr w.heap.size seed (t + 1) (.slice (some ⟨g1, 0, none⟩) j c) := ⟨g1, c, by rw [← HQE.out], by omega, by rw [← HQE.out]; exact hc1, hm1, by rw [← HQE.out]; exact hrow1⟩
              have p1e : (p1 : Int) + 16 = ((577 + 16 * (t + 1) : Nat) : Int) := by have := HP1.out; omega
              have p1b : (p1 : Int) ≤ 700 := by have := HP1.out; omega
              have ae : (a : Int) / 2 = (a' : Int) := by have := HKH.out; omega
              have aq : (a : Int).tdiv 2 = (a' : Int) := by rw [Int.tdiv_eq_ediv_of_nonneg (by omega)]; exact ae
              have HL1 := Lib.hid hL1
              have HB1 := Lib.hid hB1
              clear hL1 hB1 hu hI hrow1 hrld hv1
              go_wp2
              exact ⟨⟨t + 1, g1, c, by omega, by rw [← HQE.out], by rw [HA'.out], rfl, by rw [← HQE.out]; exact HL1.out, HB1.out⟩, by have := HP1.out; simp only [intOf]; omega⟩
        · obtain rfl : t = 3 := by omega
          have hn1 : ¬ ((1 : Int) < ((lvN 3 : Nat) : Int)) := by decide
          have hl3 : lvN 3 = 1 := rfl
          have hts := lvB_size seed 3 0
          have hpk : Hid (smB ({ data := #[2] } ++ lvB seed 3 0) = pkB seed) := Lib.hid rfl
          have c1 := hrl.cellAt (show (lvS seed 3 (lvN 3))[0]? = some (.string (lvB seed 3 0)) by rfl)
          obtain ⟨x, hx⟩ : ∃ x, x = lvB seed 3 0 := ⟨_, rfl⟩
          rw [← hx] at hpk hts c1
          obtain ⟨x1, hx1⟩ : ∃ x1 : ByteArray, { data := #[2] } ++ x = x1 := ⟨_, rfl⟩
          have x1s : x1.size ≤ 100 := by rw [← hx1, ByteArray.size_append, hts]; decide
          have hxs : x.size ≤ 100 := by omega
          have SM := Lib.hid (fun wx => rsum_b x1 wx (by omega))
          rw [hx1] at hpk
          rw [hpk.out] at SM
          obtain ⟨pk, hpk'⟩ : ∃ pk, pk = pkB seed := ⟨_, rfl⟩
          rw [← hpk'] at SM
          have PU1 := PU
          rw [← hpk'] at PU1
          have tp : (pk.toList == pk.toList) = true := by simp
          clear hx hts hpk hpk' hrl hle PU
          rw [hl3]
          go_wp2_with (first
            | (go_at_call 24; (with_reducible refine (SM.out _).mono ?_); rintro e w3 ⟨rfl, hb3⟩; have B3 := hB.trans (hb3.mono hB.size))
            | (go_at_call 10; (with_reducible refine (PU1.out _ (HK.out.below B3)).mono ?_); rintro e w4 ⟨rfl, hb4⟩; have B4 := B3.trans (hb4.mono B3.size))
            | (go_at_call 7; (with_reducible refine (AW.out _ (HK.out.below B4)).mono ?_); rintro e w5 ⟨rfl, hb5⟩; have B5 := B4.trans (hb5.mono B4.size)))
          go_ret
          exact ⟨rfl, B5⟩
end Go.Proofs.YtpophimnoakinaaDoor
