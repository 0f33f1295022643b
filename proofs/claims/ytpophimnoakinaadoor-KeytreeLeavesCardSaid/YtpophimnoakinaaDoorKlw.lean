/- The sanity check of the statements of keytree; the walk of KeytreeSigns. -/
import Derived.Test.YtpophimnoakinaaDoorSpoil
import Derived.Test.YtpophimnoakinaaDoorKtf
namespace Go.Proofs.YtpophimnoakinaaDoor
open Go.ChangeShapes Go.WideShapes Go.ChangeAt Go.RowKit
set_option linter.unusedVariables false
set_option linter.unusedSimpArgs false

set_option maxRecDepth 100000 in
theorem awake12_any (w : World) (hK : Ktab w) : Calls Tryd.prog 7 #[] w fun e w' => e = .returned (.bool true) ∧ Below w.heap.size w w' := by
  have A1 := Lib.hid (fun (wx : World) (h : Ktab wx) => sign12_ok { data := #[115, 101, 101, 100] } { data := #[116, 101, 120, 116] } 3 wx (by decide) (by decide) (by decide) h.st)
  have A2 := Lib.hid (fun (wx : World) (h : Ktab wx) => key12_any { data := #[115, 101, 101, 100] } wx (by decide) h)
  have A3 := Lib.hid (fun (wx : World) (h : Ktab wx) => verify12_any (keyB { data := #[115, 101, 101, 100] }) { data := #[116, 101, 120, 116] } (sgB { data := #[115, 101, 101, 100] } 3 { data := #[116, 101, 120, 116] }) wx (by rw [keyB_size]; decide) (by decide) (by rw [sgB_size]; decide) h)
  rw [ver_key _ _ 3 (by decide)] at A3
  rw [show ((3 : Nat) : Int) = 3 from rfl] at A1
  have hz := sgB_size { data := #[115, 101, 101, 100] } 3 { data := #[116, 101, 120, 116] }
  obtain ⟨s, hs⟩ : ∃ s, s = sgB { data := #[115, 101, 101, 100] } 3 { data := #[116, 101, 120, 116] } := ⟨_, rfl⟩
  rw [← hs] at A1 A3 hz
  obtain ⟨k, hk⟩ : ∃ k, k = keyB { data := #[115, 101, 101, 100] } := ⟨_, rfl⟩
  rw [← hk] at A2 A3
  have t1 : ((s.size : Int) == 625) = true := by rw [hz]; rfl
  have HK := Lib.hid hK
  clear hs hk hz hK
  go_enter Tryd.func7, Tryd.ntmps7
  go_wp2_with (first
    | (go_at_call 17; (with_reducible refine (A1.out _ HK.out).mono ?_); rintro e w1 ⟨rfl, hb1⟩)
    | (go_at_call 12; (with_reducible refine (A2.out _ (HK.out.below hb1)).mono ?_); rintro e w2 ⟨rfl, hb2⟩; have b2 := hb1.trans (hb2.mono hb1.size))
    | (go_at_call 20; (with_reducible refine (A3.out _ (HK.out.below b2)).mono ?_); rintro e w3 ⟨rfl, hb3⟩; have b3 := b2.trans (hb3.mono b2.size)))
  go_ret
  exact ⟨rfl, b3⟩
/-- The text is a primitive with this code. -/
theorem keyB_is (seed : ByteArray) : (opnE 2 (keyB seed) == 0) = true := by rw [(keyB_open seed).1]; rfl
theorem witB_is (seed : ByteArray) : (opnE 3 (witB seed) == 0) = true := by rw [(witB_open seed).1]; rfl
set_option maxHeartbeats 1600000 in
set_option maxRecDepth 100000 in
theorem signs12_walk (seed m : ByteArray) (use : Int) (w : World) (h1 : -9223372036854775808 ≤ use) (h2 : use ≤ 9223372036854775807) (hK : Ktab w) :
    Calls Tryd.prog 4 #[.string seed, .string m, .int .i64 use] w fun e w' => e = .returned (.bool true) ∧ Below w.heap.size w w' := by
  have AW := Lib.hid (fun (wx : World) (h : Ktab wx) => awake12_any wx h)
  have HK := Lib.hid hK
  clear hK
  by_cases k1 : 100 < seed.size
  · have h1i : (100 : Int) < (seed.size : Int) := by omega
    go_enter Tryd.func4, Tryd.ntmps4
    go_wp2_with (go_at_call 7; (with_reducible refine (AW.out _ HK.out).mono ?_); rintro e w1 ⟨rfl, hb1⟩)
    go_ret
    exact ⟨rfl, hb1⟩
  have h1i : ¬ (100 : Int) < (seed.size : Int) := by omega
  by_cases k2 : 200 < m.size
  · have h2i : (200 : Int) < (m.size : Int) := by omega
    go_enter Tryd.func4, Tryd.ntmps4
    go_wp2_with (go_at_call 7; (with_reducible refine (AW.out _ HK.out).mono ?_); rintro e w1 ⟨rfl, hb1⟩)
    go_ret
    exact ⟨rfl, hb1⟩
  have h2i : ¬ (200 : Int) < (m.size : Int) := by omega
  obtain ⟨k, hk⟩ : ∃ k : Nat, use % 8 = (k : Int) := ⟨(use % 8).toNat, by omega⟩
  have hk8 : k < 8 := by omega
  have MA := Lib.hid (fun wx : World => mod_any use 8 wx (by decide) (by decide) h1 h2)
  rw [show ((8 : Nat) : Int) = 8 from rfl, hk] at MA
  have A1 := Lib.hid (fun (wx : World) (h : Ktab wx) => key12_any seed wx (by omega) h)
  have A2 := Lib.hid (fun (wx : World) (h : Ktab wx) => witness12_any seed wx (by omega) h)
  have A3 := Lib.hid (fun (wx : World) (h : Ktab wx) => sign12_ok seed m k wx (by omega) (by omega) hk8 h.st)
  have A4 := Lib.hid (fun (wx : World) => sign12_no seed m 8 wx (by decide))
  have A5 := Lib.hid (fun (wx : World) => sign12_no seed m (-1) wx (by decide))
  have V1 := Lib.hid (fun (wx : World) (h : Ktab wx) => verify12_any (keyB seed) m (sgB seed k m) wx (by rw [keyB_size]; decide) (by omega) (by rw [sgB_size]; decide) h)
  have V2 := Lib.hid (fun (wx : World) (h : Ktab wx) => verify12_any (witB seed) m (sgB seed k m) wx (by rw [witB_size]; decide) (by omega) (by rw [sgB_size]; decide) h)
  rw [ver_key seed m k hk8] at V1
  rw [ver_wit seed m k hk8] at V2
  have I1 := Lib.hid (fun (wx : World) => ris_any 2 (keyB seed) wx (by rw [keyB_size]; decide))
  have I2 := Lib.hid (fun (wx : World) => ris_any 3 (witB seed) wx (by rw [witB_size]; decide))
  rw [keyB_is] at I1
  rw [witB_is] at I2
  have hz := sgB_size seed k m
  obtain ⟨s, hs, h0, hix⟩ : ∃ s, s = sgB seed k m ∧ ∃ h0 : 0 < s.size, (s[0]'h0).toNat = k := ⟨_, rfl, by omega, by rw [use_get, useN_sg seed m k hk8]⟩
  rw [← hs] at A3 V1 V2 hz
  obtain ⟨p, hp⟩ : ∃ p, p = keyB seed := ⟨_, rfl⟩
  rw [← hp] at A1 V1 I1
  obtain ⟨q, hq⟩ : ∃ q, q = witB seed := ⟨_, rfl⟩
  rw [← hq] at A2 V2 I2
  have hw : wrap64 (k : Int) = (k : Int) := by unfold wrap64; omega
  have t1 : ((s.size : Int) == 625) = true := by rw [hz]; rfl
  have t2 : ((k : Int) == (k : Int)) = true := by simp
  clear hs hp hq hk h1 h2 k1 k2 hk8
  go_enter Tryd.func4, Tryd.ntmps4
  go_wp2_with (first
    | (go_at_call 16; (with_reducible refine (MA.out _).mono ?_); rintro e w3 ⟨rfl, rfl⟩)
    | (go_at_call 12; (with_reducible refine (A1.out _ HK.out).mono ?_); rintro e w1 ⟨rfl, hb1⟩; have b := hb1; clear hb1)
    | (go_at_call 14; (with_reducible refine (A2.out _ (HK.out.below b)).mono ?_); rintro e w1 ⟨rfl, hb1⟩; replace b := b.trans (hb1.mono b.size); clear hb1)
    | (go_at_call 17; (with_reducible refine (A3.out _ (HK.out.below b)).mono ?_); rintro e w1 ⟨rfl, hb1⟩; replace b := b.trans (hb1.mono b.size); clear hb1)
    | (go_at_call 17; (with_reducible refine (A4.out _).mono ?_); rintro e w1 ⟨rfl, hb1⟩; replace b := b.trans (hb1.mono b.size); clear hb1)
    | (go_at_call 17; (with_reducible refine (A5.out _).mono ?_); rintro e w1 ⟨rfl, hb1⟩; replace b := b.trans (hb1.mono b.size); clear hb1)
    | (go_at_call 20; (with_reducible refine (V1.out _ (HK.out.below b)).mono ?_); rintro e w1 ⟨rfl, hb1⟩; replace b := b.trans (hb1.mono b.size); clear hb1)
    | (go_at_call 20; (with_reducible refine (V2.out _ (HK.out.below b)).mono ?_); rintro e w1 ⟨rfl, hb1⟩; replace b := b.trans (hb1.mono b.size); clear hb1)
    | (go_at_call 22; (with_reducible refine (I1.out _).mono ?_); rintro e w1 ⟨rfl, hb1⟩; replace b := b.trans (hb1.mono b.size); clear hb1)
    | (go_at_call 22; (with_reducible refine (I2.out _).mono ?_); rintro e w1 ⟨rfl, hb1⟩; replace b := b.trans (hb1.mono b.size); clear hb1)
    | (go_at_call 7; (with_reducible refine (AW.out _ (HK.out.below b)).mono ?_); rintro e w1 ⟨rfl, hb1⟩; replace b := b.trans (hb1.mono b.size); clear hb1))
  go_ret
  exact ⟨rfl, b⟩
end Go.Proofs.YtpophimnoakinaaDoor
