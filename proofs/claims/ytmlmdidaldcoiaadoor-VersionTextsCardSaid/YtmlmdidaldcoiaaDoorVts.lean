/- The walk of the statement VersionTexts. -/
import Derived.Test.YtmlmdidaldcoiaaDoorVfn
namespace Go.Proofs.YtmlmdidaldcoiaaDoor
open Go Go.Maps Go.ChangeShapes Go.WideShapes Go.ChangeAt Go.RowKit
set_option linter.unusedVariables false
set_option linter.unusedSimpArgs false

/-- The version itself in block gV, the two in block gs. -/
structure TsW (w wr : World) (gV : Nat) (V : VD) (gs : Nat) (R : VD) : Prop where
  v : wr.heap[gV]? = some (.cells #[.string V.p, .int .i64 V.a, .int .i64 V.b, .int .i64 V.f, .int .i64 V.z] 24 (0, 0))
  s : wr.heap[gs]? = some (.cells #[.string V.p, .int .i64 V.a, .int .i64 V.b, .int .i64 V.f, .int .i64 V.z, .string R.p, .int .i64 R.a, .int .i64 R.b, .int .i64 R.f, .int .i64 R.z] 24 (0, 0))
  b : Below w.heap.size w wr
theorem TsW.step {w wr wn : World} {gV gs : Nat} {V R : VD} (h : TsW w wr gV V gs R) (hb : Below wr.heap.size wr wn) : TsW w wn gV V gs R := ⟨(hb.block _ (lt_of_block h.v)).trans h.v, (hb.block _ (lt_of_block h.s)).trans h.s, h.b.trans (hb.mono h.b.size)⟩
theorem ten_of {w : World} {g : Nat} {T : TypeId} {a b c d e a' b' c' d' e' : Value} (h : w.heap[g]? = some (.cells #[a, b, c, d, e, a', b', c', d', e'] T (0, 0))) : (w.cell? ⟨g, 0, none⟩ = some a ∧ w.cell? ⟨g, 1, none⟩ = some b ∧ w.cell? ⟨g, 2, none⟩ = some c ∧ w.cell? ⟨g, 3, none⟩ = some d ∧ w.cell? ⟨g, 4, none⟩ = some e) ∧ (w.cell? ⟨g, 5, none⟩ = some a' ∧ w.cell? ⟨g, 6, none⟩ = some b' ∧ w.cell? ⟨g, 7, none⟩ = some c' ∧ w.cell? ⟨g, 8, none⟩ = some d' ∧ w.cell? ⟨g, 9, none⟩ = some e') := by
  simp [World.cell?, h]
set_option maxHeartbeats 12800000 in
set_option maxRecDepth 100000 in
theorem texts9_walk (a : Option Addr) (len cap : Nat) (zs : List Int) (R : VD) (hR : WideV R) (s : ByteArray) (xa xb : Int) (ha : wI xa) (hb : wI xb) (w : World) (hn : NumsB w.heap.size w a len cap zs) (hT : DB w) (hE : VErr w) :
    Calls Tryd.prog 3 #[.slice a len cap, .agg (vcs R), .string s, .int .i64 xa, .int .i64 xb] w fun e w' => e = .returned (.bool true) ∧ Below w.heap.size w w' := by
  have AW := Lib.hid (fun (wx : World) (hb : Below w.heap.size w wx) => awake9_any wx (hT.below hb))
  have LI := Lib.hid (fun wx : World => light_any a len cap wx)
  have HT := Lib.hid hT
  have HE := Lib.hid hE
  have HA := Lib.hid (And.intro ha hb)
  unfold vcs
  have b0 := (Below.refl w.heap.size w).alloc (o := .cells #[.string R.p, .int .i64 R.a, .int .i64 R.b, .int .i64 R.f, .int .i64 R.z] 24) (Nat.le_refl _)
  have k0 := heap_alloc_new w (.cells #[.string R.p, .int .i64 R.a, .int .i64 R.b, .int .i64 R.f, .int .i64 R.z] 24)
  have hn1 : NumsB (w.alloc (.cells #[.string R.p, .int .i64 R.a, .int .i64 R.b, .int .i64 R.f, .int .i64 R.z] 24)).heap.size (w.alloc (.cells #[.string R.p, .int .i64 R.a, .int .i64 R.b, .int .i64 R.f, .int .i64 R.z] 24)) a len cap zs := by
    obtain ⟨h1, h2, h3, h4⟩ := hn
    refine ⟨h1, h2, fun i hi => ?_, h4⟩
    obtain ⟨b, off, e, hb, hc⟩ := h3 i hi
    exact ⟨b, off, e, Nat.lt_of_lt_of_le hb b0.size, (b0.cell (p := ⟨b, off + i, none⟩) hb).trans hc⟩
  have RO := Lib.hid (roll_any a len cap zs _ hn1)
  clear hn hn1 hT hE ha hb
  by_cases hall : (len : Int) ≤ 500 ∧ R.p.size ≤ 100 ∧ s.size ≤ 200
  · obtain ⟨h500, hrp, hss⟩ := hall
    rw [decide_eq_true h500] at LI
    have gg1 : ¬ (100 : Int) < (R.p.size : Int) := by omega
    have gg2 : ¬ (200 : Int) < (s.size : Int) := by omega
    clear h500
    go_enter Tryd.func3, Tryd.ntmps3
    go_upto_region 1 with fail
    generalize w.alloc _ = w1 at b0 k0 RO ⊢
    have c0 := five_of k0
    have HB1 := Lib.hid b0
    have HK1 := Lib.hid k0
    clear b0 k0
    go_upto_region 4 with (first
      | (go_at_call 7; (with_reducible refine (LI.out _).mono ?_); rintro e w3 ⟨rfl, rfl⟩)
      | (go_at_call 10; (with_reducible refine (RO.out).mono ?_); rintro e w2 ⟨rfl, hb2, hd2⟩)
      | (go_at_call 9; (with_reducible refine (some_any w1.heap.size w1.heap.size _ hd2).mono ?_); rintro e w4 ⟨⟨V, hV, hp5, rfl⟩, hg4, hd4⟩; unfold vcs))
    have hz1 := lt_of_block HK1.out
    have hB4 : Below w1.heap.size w1 w4 := hb2.grown hg4 hb2.size (fun k hk => by cases hk; exact Nat.le_refl _)
    have b5 := (Below.refl w4.heap.size w4).alloc (o := .cells #[.string V.p, .int .i64 V.a, .int .i64 V.b, .int .i64 V.f, .int .i64 V.z] 24) (Nat.le_refl _)
    have k5 := heap_alloc_new w4 (.cells #[.string V.p, .int .i64 V.a, .int .i64 V.b, .int .i64 V.f, .int .i64 V.z] 24)
    have hB5 := hB4.trans (b5.mono hB4.size)
    have c5' := five_of ((hB5.block _ hz1).trans HK1.out)
    have HB5 := Lib.hid (HB1.out.trans (hB5.mono HB1.out.size))
    generalize w4.alloc _ = w5 at b5 k5 c5' HB5 ⊢
    generalize w4.heap.size = gV at k5 ⊢
    have c5 := five_of k5
    have HK5 := Lib.hid k5
    have HV := Lib.hid hV
    clear hb2 hd2 hg4 hd4 hB4 b5 k5 hB5 hV RO LI hp5 hz1 c0 HB1 HK1
    go_upto_region 5 with fail
    have b6 := (Below.refl w5.heap.size w5).alloc (o := .cells #[.string V.p, .int .i64 V.a, .int .i64 V.b, .int .i64 V.f, .int .i64 V.z, .string R.p, .int .i64 R.a, .int .i64 R.b, .int .i64 R.f, .int .i64 R.z] 24) (Nat.le_refl _)
    have HT6 : Hid (TsW w (w5.alloc (.cells #[.string V.p, .int .i64 V.a, .int .i64 V.b, .int .i64 V.f, .int .i64 V.z, .string R.p, .int .i64 R.a, .int .i64 R.b, .int .i64 R.f, .int .i64 R.z] 24)) gV V w5.heap.size R) := Lib.hid ⟨(b6.block _ (lt_of_block HK5.out)).trans HK5.out, heap_alloc_new _ _, HB5.out.trans (b6.mono HB5.out.size)⟩
    generalize w5.alloc _ = w6 at HT6 ⊢
    generalize w5.heap.size = gs at HT6 ⊢
    clear b6 c5 c5' HK5 HB5
    have HRW := Lib.hid hR
    clear hR
    go_loopw [13, 14, 15, 16, 17, 48] (fun _ _ _ _ _ vc wr => ∃ k : Nat, vc = .int .i64 (k : Int) ∧ k ≤ 2 ∧ TsW w wr gV V gs R) (fun _ _ _ _ _ vc _ => 2 - (intOf vc).toNat)
    case atStart => exact ⟨0, rfl, by decide, HT6.out⟩
    case round =>
      obtain ⟨k, rfl, hk2, hTs⟩ := hrel
      clear HT6
      rcases (by omega : k = 2 ∨ k = 0 ∨ k = 1) with rfl | hk01
      · have HT1 := Lib.hid hTs
        have c1 := five_of hTs.v
        clear hTs
        have TR : Hid (∀ wx : World, Calls Tryd.prog 12 #[.agg #[.string V.p, .int .i64 V.a, .int .i64 V.b, .int .i64 V.f, .int .i64 V.z]] wx (RxPostV V wx)) := Lib.hid fun wx => rvtext_any V wx
        unfold RxPostV at TR
        have hs1 := vt_size V
        generalize vtS V = S at TR hs1
        go_upto_region 13 with (go_at_call 12; (with_reducible refine (TR.out _).mono ?_); rintro e w7 ⟨rfl, hb7⟩)
        have HB7 := Lib.hid (HT1.out.b.trans (hb7.mono HT1.out.b.size))
        clear hb7 c1 TR HT1
        have SP : Hid (Calls Tryd.prog 15 #[.string S, .int .i64 xa, .int .i64 xb] w7 (SomeStr S.size w7)) := Lib.hid (spoil_any S xa xb w7 (by omega) HA.out.1.1 HA.out.1.2)
        unfold SomeStr at SP
        obtain ⟨SU, hSU⟩ : ∃ x, S ++ (⟨#[95]⟩ : ByteArray) = x := ⟨_, rfl⟩
        have lim : ¬ 9223372036854775807 < S.size + 1 := by omega
        go_upto_region 14 with (go_at_call 15; (with_reducible refine (SP.out).mono ?_); rintro e w8 ⟨r, rfl, hr, hb8⟩)
        have HB8 := Lib.hid (HB7.out.trans (hb8.mono HB7.out.size))
        have b9 := (Below.refl w8.heap.size w8).alloc (o := .cells #[.string S, .string s, .string r, .string SU] 9) (Nat.le_refl _)
        have HF0 : Hid (FdW w (w8.alloc (.cells #[.string S, .string s, .string r, .string SU] 9)) w8.heap.size [S, s, r, SU]) := Lib.hid ⟨heap_alloc_new _ _, HB8.out.trans (b9.mono HB8.out.size)⟩
        clear hb8 SP HB7 hr b9 HB8
        generalize w8.alloc _ = w9 at HF0 ⊢
        generalize w8.heap.size = gt at HF0 ⊢
        obtain ⟨ns, hns⟩ : ∃ ns, ns = [S, s, r, SU] := ⟨_, rfl⟩
        have hn5 : ns.length = 4 := by rw [hns]; rfl
        rw [← hns] at HF0
        have HN5 := Lib.hid hn5
        clear hns hn5 hSU lim hs1
        go_loopw [21, 22, 23, 24, 25, 93] (fun _ _ _ _ _ vc wr => ∃ k : Nat, vc = .int .i64 (k : Int) ∧ k ≤ 4 ∧ FdW w wr gt ns) (fun _ _ _ _ _ vc _ => 4 - (intOf vc).toNat)
        case atStart => exact ⟨0, rfl, by decide, HF0.out⟩
        case round =>
          obtain ⟨k, rfl, hk5, hF⟩ := hrel
          clear HF0
          by_cases hk : k < 4
          · have hkl : k < ns.length := by rw [HN5.out]; exact hk
            have hcell := vcells_lits ns hF.s rfl k ns[k] (List.getElem?_eq_getElem hkl)
            generalize ns[k] = y at hcell
            have hkI : (k : Int) < 4 := by omega
            have hk0 : (0 : Int) ≤ (k : Int) := by omega
            have P1 : Hid (Calls Tryd.prog 16 #[.string y] wr (PsPost y wr)) := Lib.hid (vparse_any y wr (HT.out.below hF.b) (HE.out.below hF.b))
            have P2 : Hid (∀ wx : World, Calls Tryd.prog 17 #[.string y] wx (PsPost y wx)) := Lib.hid fun wx => rvparse_any y wx
            unfold PsPost at P1 P2
            generalize pvV y.data.toList = Y at P1 P2
            generalize pvE y.data.toList = E at P1 P2
            unfold vcs at P1 P2
            have HF := Lib.hid hF
            clear hF hkl
            go_upto_region 17 with (go_at_call 16; (with_reducible refine (P1.out).mono ?_); rintro e w10 ⟨rfl, hb10⟩)
            have b11 := (Below.refl w10.heap.size w10).alloc (o := .cells #[.string Y.p, .int .i64 Y.a, .int .i64 Y.b, .int .i64 Y.f, .int .i64 Y.z] 24) (Nat.le_refl _)
            have k11 := heap_alloc_new w10 (.cells #[.string Y.p, .int .i64 Y.a, .int .i64 Y.b, .int .i64 Y.f, .int .i64 Y.z] 24)
            have HF11 := Lib.hid ((HF.out.step hb10).step b11)
            generalize w10.alloc _ = w11 at k11 HF11 ⊢
            generalize w10.heap.size = g11 at k11 ⊢
            have HK11 := Lib.hid k11
            clear hb10 b11 k11 HF hcell P1
            go_upto_region 18 with (go_at_call 17; (with_reducible refine (P2.out _).mono ?_); rintro e w12 ⟨rfl, hb12⟩)
            have k12 := (hb12.block _ (lt_of_block HK11.out)).trans HK11.out
            have b13 := (Below.refl w12.heap.size w12).alloc (o := .cells #[.string Y.p, .int .i64 Y.a, .int .i64 Y.b, .int .i64 Y.f, .int .i64 Y.z] 24) (Nat.le_refl _)
            have k13 := heap_alloc_new w12 (.cells #[.string Y.p, .int .i64 Y.a, .int .i64 Y.b, .int .i64 Y.f, .int .i64 Y.z] 24)
            have x13 := five_of ((b13.block _ (lt_of_block k12)).trans k12)
            have HF13 := Lib.hid ((HF11.out.step hb12).step b13)
            generalize w12.alloc _ = w13 at k13 x13 HF13 ⊢
            generalize w12.heap.size = g13 at k13 ⊢
            have y13 := five_of k13
            have VE := fun wx => vers_neq wx Y.p Y.a Y.b Y.f Y.z
            have VG := fun wx op x y => vers_guard wx op x y #[.string Y.p, .int .i64 Y.a, .int .i64 Y.b, .int .i64 Y.f, .int .i64 Y.z] #[.string Y.p, .int .i64 Y.a, .int .i64 Y.b, .int .i64 Y.f, .int .i64 Y.z]
            clear hb12 k12 b13 k13 P2 HF11 HK11
            go_wp2
            go_roundw
            case rel => exact ⟨k + 1, by go_num, by omega, HF13.out⟩
            case measure => simp [intOf]; omega
          · obtain rfl : k = 4 := by omega
            have HF := Lib.hid hF
            clear hF
            go_wp2_with (go_at_call 8; (with_reducible refine (AW.out _ HF.out.b).mono ?_); rintro e w13 ⟨rfl, hb13⟩)
            go_ret
            exact ⟨rfl, HF.out.b.trans (hb13.mono HF.out.b.size)⟩
      · rcases hk01 with rfl | rfl
        · have HT1 := Lib.hid hTs
          have cX := (ten_of hTs.s).1
          have hWX := HV.out
          clear hTs
          obtain ⟨X, hX⟩ : ∃ X, X = V := ⟨_, rfl⟩
          rw [← hX] at cX hWX
          clear hX
          go_upto_region 7 with fail
          have b10 := (Below.refl wr.heap.size wr).alloc (o := .cells #[.string X.p, .int .i64 X.a, .int .i64 X.b, .int .i64 X.f, .int .i64 X.z] 24) (Nat.le_refl _)
          have k10 := heap_alloc_new wr (.cells #[.string X.p, .int .i64 X.a, .int .i64 X.b, .int .i64 X.f, .int .i64 X.z] 24)
          have HT10 := Lib.hid (HT1.out.step b10)
          generalize wr.alloc _ = w10 at k10 HT10 ⊢
          generalize wr.heap.size = g13 at k10 ⊢
          have c10 := five_of k10
          have HK10 := Lib.hid k10
          clear b10 k10 HT1 cX
          have TX : Hid (Calls Tryd.prog 11 #[.agg #[.string X.p, .int .i64 X.a, .int .i64 X.b, .int .i64 X.f, .int .i64 X.z]] w10 (TxPostV X w10)) := Lib.hid (vtext_any X w10 hWX (HT.out.below HT10.out.b))
          have TR : Hid (∀ wx : World, Calls Tryd.prog 12 #[.agg #[.string X.p, .int .i64 X.a, .int .i64 X.b, .int .i64 X.f, .int .i64 X.z]] wx (RxPostV X wx)) := Lib.hid fun wx => rvtext_any X wx
          have VA : Hid (∀ wx : World, Calls Tryd.prog 13 #[.agg #[.string X.p, .int .i64 X.a, .int .i64 X.b, .int .i64 X.f, .int .i64 X.z]] wx fun e w' => e = .returned (.bool (validV X)) ∧ Below wx.heap.size wx w') := Lib.hid fun wx => valid_any X wx hWX
          have VR : Hid (∀ wx : World, Calls Tryd.prog 14 #[.agg #[.string X.p, .int .i64 X.a, .int .i64 X.b, .int .i64 X.f, .int .i64 X.z]] wx fun e w' => e = .returned (.bool (validV X)) ∧ Below wx.heap.size wx w') := Lib.hid fun wx => rvvalid_any X wx
          unfold TxPostV at TX
          unfold RxPostV at TR
          generalize vtS X = S at TX TR
          generalize vtE X = E at TX TR
          generalize validV X = bv at VA VR
          go_upto_region 8 with (go_at_call 11; (with_reducible refine (TX.out).mono ?_); rintro e w11 ⟨rfl, hb11⟩)
          have HT11 := Lib.hid (HT10.out.step hb11)
          have HK11 := Lib.hid ((hb11.block _ (lt_of_block HK10.out)).trans HK10.out)
          have c11 := five_of HK11.out
          clear hb11 TX c10 HT10 HK10
          go_upto_region 9 with (go_at_call 12; (with_reducible refine (TR.out _).mono ?_); rintro e w12 ⟨rfl, hb12⟩)
          have HT12 := Lib.hid (HT11.out.step hb12)
          have HK12 := Lib.hid ((hb12.block _ (lt_of_block HK11.out)).trans HK11.out)
          clear hb12 TR c11 HT11 HK11
          refine wp_region_plan (fun _ => True) [] (.take 0 (.take 1 (.take 2 (.take 3 (Plan.join true (.ask 4 false (.ask 5 false .stop .stop) (.ask 5 false (.ask 4 false .stop .stop) .stop)) (.ask 6 false (.take 7 (.take 8 (Plan.join true (.ask 9 false (.ask 10 false (.ask 11 false .stop .stop) (.ask 11 false (.ask 10 false .stop .stop) .stop)) (.ask 11 false (.ask 9 false (.ask 10 false .stop .stop) .stop) .stop)) (.ask 12 false (.ask 13 false (.take 14 .stop) .stop) .stop)))) .stop)))))) (by kernel_rfl) (by kernel_rfl) (fun _ d _ _ _ h => by cases d <;> exact h) trivial ?_
          have bd := (Below.refl w12.heap.size w12).drew
          have HT13 := Lib.hid (HT12.out.step bd)
          have HK13 := Lib.hid ((bd.block _ (lt_of_block HK12.out)).trans HK12.out)
          generalize w12.drew = w13 at HT13 HK13 ⊢
          clear bd HT12 HK12
          refine take_any _ ?_ rfl rfl ?_ (fun K hK => ?_); rotate_left; (intro w0; go_simp; (try rfl)); (go_simp; refine hK _ ?_; clear hK K)
          refine take_any _ ?_ rfl rfl ?_ (fun K hK => ?_); rotate_left; (intro w0; go_simp; (try rfl)); (go_simp; refine hK _ ?_; clear hK K)
          refine take_any _ ?_ rfl rfl ?_ (fun K hK => ?_); rotate_left; (intro w0; go_simp; (try rfl)); (go_simp; refine hK _ ?_; clear hK K)
          refine take_any _ ?_ rfl rfl ?_ (fun K hK => ?_); rotate_left; (intro w0; go_simp; (try rfl)); (go_simp; refine hK _ ?_; clear hK K)
          refine plan_cut [66, 67] (fun vs wx => vs = [.int .i64 E, .int .i64 E] ∧ wx = w13) ?_ ?_
          rotate_left
          · rintro vs wx ⟨rfl, rfl⟩
            simp only [puts, Act.put, List.setIfInBounds_toArray, List.set_cons_zero, List.set_cons_succ]
            refine ask_late _ rfl trivial ?_; go_wp2_with fail; refine Seg.mk ?_
            refine take_any _ ?_ rfl rfl ?_ (fun K hK => ?_); rotate_left; (intro w0; go_simp; (try rfl)); (go_simp; refine hK _ ?_; clear hK K)
            refine take_any _ ?_ rfl rfl ?_ (fun K hK => ?_); rotate_left; (intro w0; go_simp; (try rfl)); (go_simp; refine hK _ ?_; clear hK K)
            refine plan_cut [71, 72, 73] (fun vs w15 => vs = [.agg #[.string X.p, .int .i64 X.a, .int .i64 X.b, .int .i64 X.f, .int .i64 X.z], .bool bv, .agg #[.string X.p, .int .i64 X.a, .int .i64 X.b, .int .i64 X.f, .int .i64 X.z]] ∧ TsW w w15 gV V gs R) ?_ ?_
            rotate_left
            · rintro vs w15 ⟨rfl, hT15⟩
              simp only [puts, Act.put, List.setIfInBounds_toArray, List.set_cons_zero, List.set_cons_succ]
              have HT15 := Lib.hid hT15
              clear hT15 HT13 HK13 VA
              refine ask_late _ rfl trivial ?_; go_wp2_with (go_at_call 14; (with_reducible refine (VR.out _).mono ?_); rintro e w16 ⟨rfl, hb16⟩); refine Seg.mk ?_
              have HT16 := Lib.hid (HT15.out.step hb16)
              clear hb16 HT15 VR
              refine ask_late _ rfl trivial ?_; go_wp2_with fail; refine Seg.mk ?_
              refine take_any _ ?_ rfl rfl ?_ (fun K hK => ?_); rotate_left; (intro w0; go_simp; (try rfl)); (go_simp; refine hK _ ?_; clear hK K)
              unfold wpPlan
              go_wp2
              go_roundw
              case rel => exact ⟨1, by go_num, by decide, HT16.out⟩
              case measure => simp [intOf]
            · refine ask_late _ rfl ?_ ?_
              · have c13 := five_of HK13.out
                refine ask_late _ rfl trivial ?_; go_wp2_with fail; refine Seg.mk ?_
                refine ask_late _ rfl trivial ?_; go_wp2_with fail; refine Seg.mk ?_
                refine ask_late _ rfl trivial ?_; go_wp2_with (go_at_call 13; (with_reducible refine (VA.out _).mono ?_); rintro e w14 ⟨rfl, hb14⟩); refine Seg.mk ?_
                exact plan_meet [.agg #[.string X.p, .int .i64 X.a, .int .i64 X.b, .int .i64 X.f, .int .i64 X.z], .bool bv, .agg #[.string X.p, .int .i64 X.a, .int .i64 X.b, .int .i64 X.f, .int .i64 X.z]] ⟨rfl, HT13.out.step hb14⟩ (by simp only [puts, Act.put, List.setIfInBounds_toArray, List.set_cons_zero, List.set_cons_succ])
              · have c13 := five_of HK13.out
                go_wp2_with fail
                refine Seg.mk ?_
                refine ask_late _ rfl ?_ ?_
                · refine ask_late _ rfl trivial ?_; go_wp2_with fail; refine Seg.mk ?_
                  refine ask_late _ rfl trivial ?_; go_wp2_with (go_at_call 13; (with_reducible refine (VA.out _).mono ?_); rintro e w14 ⟨rfl, hb14⟩); refine Seg.mk ?_
                  exact plan_meet [.agg #[.string X.p, .int .i64 X.a, .int .i64 X.b, .int .i64 X.f, .int .i64 X.z], .bool bv, .agg #[.string X.p, .int .i64 X.a, .int .i64 X.b, .int .i64 X.f, .int .i64 X.z]] ⟨rfl, HT13.out.step hb14⟩ (by simp only [puts, Act.put, List.setIfInBounds_toArray, List.set_cons_zero, List.set_cons_succ])
                · go_wp2_with (go_at_call 13; (with_reducible refine (VA.out _).mono ?_); rintro e w14 ⟨rfl, hb14⟩)
                  refine Seg.mk ?_
                  have c14 := five_of ((hb14.block _ (lt_of_block HK13.out)).trans HK13.out)
                  have HT14 := Lib.hid (HT13.out.step hb14)
                  clear hb14 c13
                  refine ask_late _ rfl trivial ?_; go_wp2_with fail; refine Seg.mk ?_
                  exact plan_meet [.agg #[.string X.p, .int .i64 X.a, .int .i64 X.b, .int .i64 X.f, .int .i64 X.z], .bool bv, .agg #[.string X.p, .int .i64 X.a, .int .i64 X.b, .int .i64 X.f, .int .i64 X.z]] ⟨rfl, HT14.out⟩ (by simp only [puts, Act.put, List.setIfInBounds_toArray, List.set_cons_zero, List.set_cons_succ])
          · refine ask_late _ rfl ?_ ?_
            · refine ask_late _ rfl trivial ?_; go_wp2_with fail; refine Seg.mk ?_
              refine ask_late _ rfl trivial ?_; go_wp2_with fail; refine Seg.mk ?_
              exact plan_meet [.int .i64 E, .int .i64 E] ⟨rfl, rfl⟩ (by simp only [puts, Act.put, List.setIfInBounds_toArray, List.set_cons_zero, List.set_cons_succ])
            · go_wp2_with fail
              refine Seg.mk ?_
              refine ask_late _ rfl trivial ?_; go_wp2_with fail; refine Seg.mk ?_
              exact plan_meet [.int .i64 E, .int .i64 E] ⟨rfl, rfl⟩ (by simp only [puts, Act.put, List.setIfInBounds_toArray, List.set_cons_zero, List.set_cons_succ])
        · have HT1 := Lib.hid hTs
          have cX := (ten_of hTs.s).2
          have hWX := HRW.out
          clear hTs
          obtain ⟨X, hX⟩ : ∃ X, X = R := ⟨_, rfl⟩
          rw [← hX] at cX hWX
          clear hX
          go_upto_region 7 with fail
          have b10 := (Below.refl wr.heap.size wr).alloc (o := .cells #[.string X.p, .int .i64 X.a, .int .i64 X.b, .int .i64 X.f, .int .i64 X.z] 24) (Nat.le_refl _)
          have k10 := heap_alloc_new wr (.cells #[.string X.p, .int .i64 X.a, .int .i64 X.b, .int .i64 X.f, .int .i64 X.z] 24)
          have HT10 := Lib.hid (HT1.out.step b10)
          generalize wr.alloc _ = w10 at k10 HT10 ⊢
          generalize wr.heap.size = g13 at k10 ⊢
          have c10 := five_of k10
          have HK10 := Lib.hid k10
          clear b10 k10 HT1 cX
          have TX : Hid (Calls Tryd.prog 11 #[.agg #[.string X.p, .int .i64 X.a, .int .i64 X.b, .int .i64 X.f, .int .i64 X.z]] w10 (TxPostV X w10)) := Lib.hid (vtext_any X w10 hWX (HT.out.below HT10.out.b))
          have TR : Hid (∀ wx : World, Calls Tryd.prog 12 #[.agg #[.string X.p, .int .i64 X.a, .int .i64 X.b, .int .i64 X.f, .int .i64 X.z]] wx (RxPostV X wx)) := Lib.hid fun wx => rvtext_any X wx
          have VA : Hid (∀ wx : World, Calls Tryd.prog 13 #[.agg #[.string X.p, .int .i64 X.a, .int .i64 X.b, .int .i64 X.f, .int .i64 X.z]] wx fun e w' => e = .returned (.bool (validV X)) ∧ Below wx.heap.size wx w') := Lib.hid fun wx => valid_any X wx hWX
          have VR : Hid (∀ wx : World, Calls Tryd.prog 14 #[.agg #[.string X.p, .int .i64 X.a, .int .i64 X.b, .int .i64 X.f, .int .i64 X.z]] wx fun e w' => e = .returned (.bool (validV X)) ∧ Below wx.heap.size wx w') := Lib.hid fun wx => rvvalid_any X wx
          unfold TxPostV at TX
          unfold RxPostV at TR
          generalize vtS X = S at TX TR
          generalize vtE X = E at TX TR
          generalize validV X = bv at VA VR
          go_upto_region 8 with (go_at_call 11; (with_reducible refine (TX.out).mono ?_); rintro e w11 ⟨rfl, hb11⟩)
          have HT11 := Lib.hid (HT10.out.step hb11)
          have HK11 := Lib.hid ((hb11.block _ (lt_of_block HK10.out)).trans HK10.out)
          have c11 := five_of HK11.out
          clear hb11 TX c10 HT10 HK10
          go_upto_region 9 with (go_at_call 12; (with_reducible refine (TR.out _).mono ?_); rintro e w12 ⟨rfl, hb12⟩)
          have HT12 := Lib.hid (HT11.out.step hb12)
          have HK12 := Lib.hid ((hb12.block _ (lt_of_block HK11.out)).trans HK11.out)
          clear hb12 TR c11 HT11 HK11
          refine wp_region_plan (fun _ => True) [] (.take 0 (.take 1 (.take 2 (.take 3 (Plan.join true (.ask 4 false (.ask 5 false .stop .stop) (.ask 5 false (.ask 4 false .stop .stop) .stop)) (.ask 6 false (.take 7 (.take 8 (Plan.join true (.ask 9 false (.ask 10 false (.ask 11 false .stop .stop) (.ask 11 false (.ask 10 false .stop .stop) .stop)) (.ask 11 false (.ask 9 false (.ask 10 false .stop .stop) .stop) .stop)) (.ask 12 false (.ask 13 false (.take 14 .stop) .stop) .stop)))) .stop)))))) (by kernel_rfl) (by kernel_rfl) (fun _ d _ _ _ h => by cases d <;> exact h) trivial ?_
          have bd := (Below.refl w12.heap.size w12).drew
          have HT13 := Lib.hid (HT12.out.step bd)
          have HK13 := Lib.hid ((bd.block _ (lt_of_block HK12.out)).trans HK12.out)
          generalize w12.drew = w13 at HT13 HK13 ⊢
          clear bd HT12 HK12
          refine take_any _ ?_ rfl rfl ?_ (fun K hK => ?_); rotate_left; (intro w0; go_simp; (try rfl)); (go_simp; refine hK _ ?_; clear hK K)
          refine take_any _ ?_ rfl rfl ?_ (fun K hK => ?_); rotate_left; (intro w0; go_simp; (try rfl)); (go_simp; refine hK _ ?_; clear hK K)
          refine take_any _ ?_ rfl rfl ?_ (fun K hK => ?_); rotate_left; (intro w0; go_simp; (try rfl)); (go_simp; refine hK _ ?_; clear hK K)
          refine take_any _ ?_ rfl rfl ?_ (fun K hK => ?_); rotate_left; (intro w0; go_simp; (try rfl)); (go_simp; refine hK _ ?_; clear hK K)
          refine plan_cut [66, 67] (fun vs wx => vs = [.int .i64 E, .int .i64 E] ∧ wx = w13) ?_ ?_
          rotate_left
          · rintro vs wx ⟨rfl, rfl⟩
            simp only [puts, Act.put, List.setIfInBounds_toArray, List.set_cons_zero, List.set_cons_succ]
            refine ask_late _ rfl trivial ?_; go_wp2_with fail; refine Seg.mk ?_
            refine take_any _ ?_ rfl rfl ?_ (fun K hK => ?_); rotate_left; (intro w0; go_simp; (try rfl)); (go_simp; refine hK _ ?_; clear hK K)
            refine take_any _ ?_ rfl rfl ?_ (fun K hK => ?_); rotate_left; (intro w0; go_simp; (try rfl)); (go_simp; refine hK _ ?_; clear hK K)
            refine plan_cut [71, 72, 73] (fun vs w15 => vs = [.agg #[.string X.p, .int .i64 X.a, .int .i64 X.b, .int .i64 X.f, .int .i64 X.z], .bool bv, .agg #[.string X.p, .int .i64 X.a, .int .i64 X.b, .int .i64 X.f, .int .i64 X.z]] ∧ TsW w w15 gV V gs R) ?_ ?_
            rotate_left
            · rintro vs w15 ⟨rfl, hT15⟩
              simp only [puts, Act.put, List.setIfInBounds_toArray, List.set_cons_zero, List.set_cons_succ]
              have HT15 := Lib.hid hT15
              clear hT15 HT13 HK13 VA
              refine ask_late _ rfl trivial ?_; go_wp2_with (go_at_call 14; (with_reducible refine (VR.out _).mono ?_); rintro e w16 ⟨rfl, hb16⟩); refine Seg.mk ?_
              have HT16 := Lib.hid (HT15.out.step hb16)
              clear hb16 HT15 VR
              refine ask_late _ rfl trivial ?_; go_wp2_with fail; refine Seg.mk ?_
              refine take_any _ ?_ rfl rfl ?_ (fun K hK => ?_); rotate_left; (intro w0; go_simp; (try rfl)); (go_simp; refine hK _ ?_; clear hK K)
              unfold wpPlan
              go_wp2
              go_roundw
              case rel => exact ⟨2, by go_num, by decide, HT16.out⟩
              case measure => simp [intOf]
            · refine ask_late _ rfl ?_ ?_
              · have c13 := five_of HK13.out
                refine ask_late _ rfl trivial ?_; go_wp2_with fail; refine Seg.mk ?_
                refine ask_late _ rfl trivial ?_; go_wp2_with fail; refine Seg.mk ?_
                refine ask_late _ rfl trivial ?_; go_wp2_with (go_at_call 13; (with_reducible refine (VA.out _).mono ?_); rintro e w14 ⟨rfl, hb14⟩); refine Seg.mk ?_
                exact plan_meet [.agg #[.string X.p, .int .i64 X.a, .int .i64 X.b, .int .i64 X.f, .int .i64 X.z], .bool bv, .agg #[.string X.p, .int .i64 X.a, .int .i64 X.b, .int .i64 X.f, .int .i64 X.z]] ⟨rfl, HT13.out.step hb14⟩ (by simp only [puts, Act.put, List.setIfInBounds_toArray, List.set_cons_zero, List.set_cons_succ])
              · have c13 := five_of HK13.out
                go_wp2_with fail
                refine Seg.mk ?_
                refine ask_late _ rfl ?_ ?_
                · refine ask_late _ rfl trivial ?_; go_wp2_with fail; refine Seg.mk ?_
                  refine ask_late _ rfl trivial ?_; go_wp2_with (go_at_call 13; (with_reducible refine (VA.out _).mono ?_); rintro e w14 ⟨rfl, hb14⟩); refine Seg.mk ?_
                  exact plan_meet [.agg #[.string X.p, .int .i64 X.a, .int .i64 X.b, .int .i64 X.f, .int .i64 X.z], .bool bv, .agg #[.string X.p, .int .i64 X.a, .int .i64 X.b, .int .i64 X.f, .int .i64 X.z]] ⟨rfl, HT13.out.step hb14⟩ (by simp only [puts, Act.put, List.setIfInBounds_toArray, List.set_cons_zero, List.set_cons_succ])
                · go_wp2_with (go_at_call 13; (with_reducible refine (VA.out _).mono ?_); rintro e w14 ⟨rfl, hb14⟩)
                  refine Seg.mk ?_
                  have c14 := five_of ((hb14.block _ (lt_of_block HK13.out)).trans HK13.out)
                  have HT14 := Lib.hid (HT13.out.step hb14)
                  clear hb14 c13
                  refine ask_late _ rfl trivial ?_; go_wp2_with fail; refine Seg.mk ?_
                  exact plan_meet [.agg #[.string X.p, .int .i64 X.a, .int .i64 X.b, .int .i64 X.f, .int .i64 X.z], .bool bv, .agg #[.string X.p, .int .i64 X.a, .int .i64 X.b, .int .i64 X.f, .int .i64 X.z]] ⟨rfl, HT14.out⟩ (by simp only [puts, Act.put, List.setIfInBounds_toArray, List.set_cons_zero, List.set_cons_succ])
          · refine ask_late _ rfl ?_ ?_
            · refine ask_late _ rfl trivial ?_; go_wp2_with fail; refine Seg.mk ?_
              refine ask_late _ rfl trivial ?_; go_wp2_with fail; refine Seg.mk ?_
              exact plan_meet [.int .i64 E, .int .i64 E] ⟨rfl, rfl⟩ (by simp only [puts, Act.put, List.setIfInBounds_toArray, List.set_cons_zero, List.set_cons_succ])
            · go_wp2_with fail
              refine Seg.mk ?_
              refine ask_late _ rfl trivial ?_; go_wp2_with fail; refine Seg.mk ?_
              exact plan_meet [.int .i64 E, .int .i64 E] ⟨rfl, rfl⟩ (by simp only [puts, Act.put, List.setIfInBounds_toArray, List.set_cons_zero, List.set_cons_succ])
  · go_enter Tryd.func3, Tryd.ntmps3
    go_upto_region 1 with fail
    generalize w.alloc _ = w1 at b0 k0 RO ⊢
    have c0 := five_of k0
    have HB1 := Lib.hid b0
    clear b0 k0 RO
    by_cases h500 : (len : Int) ≤ 500
    · rw [decide_eq_true h500] at LI
      by_cases hsb : (100 : Int) < (R.p.size : Int)
      · clear hall h500
        go_wp2_with (first
          | (go_at_call 7; (with_reducible refine (LI.out _).mono ?_); rintro e w3 ⟨rfl, rfl⟩)
          | (go_at_call 8; (with_reducible refine (AW.out _ HB1.out).mono ?_); rintro e w1 ⟨rfl, hb⟩))
        go_ret
        exact ⟨rfl, HB1.out.trans (hb.mono HB1.out.size)⟩
      · have hsc : (200 : Int) < (s.size : Int) := by omega
        clear hall h500
        go_wp2_with (first
          | (go_at_call 7; (with_reducible refine (LI.out _).mono ?_); rintro e w3 ⟨rfl, rfl⟩)
          | (go_at_call 8; (with_reducible refine (AW.out _ HB1.out).mono ?_); rintro e w1 ⟨rfl, hb⟩))
        go_ret
        exact ⟨rfl, HB1.out.trans (hb.mono HB1.out.size)⟩
    · rw [decide_eq_false h500] at LI
      clear hall h500
      go_wp2_with (first
        | (go_at_call 7; (with_reducible refine (LI.out _).mono ?_); rintro e w3 ⟨rfl, rfl⟩)
        | (go_at_call 8; (with_reducible refine (AW.out _ HB1.out).mono ?_); rintro e w1 ⟨rfl, hb⟩))
      go_ret
      exact ⟨rfl, HB1.out.trans (hb.mono HB1.out.size)⟩
end Go.Proofs.YtmlmdidaldcoiaaDoor
