/- The walk of the statement Base64Once: whatever list of numbers comes in, the Go text returns true, provided that the table of values reads as the program lays it. -/
import Derived.Test.YtgpilklgaipboaaDoorAwake
import Derived.Test.YtgpilklgaipboaaDoorBasg
import Derived.Test.YtgpilklgaipboaaDoorMath
namespace Go.Proofs.YtgpilklgaipboaaDoor
open Go.ChangeShapes Go.WideShapes Go.ChangeAt Go.RowKit
set_option linter.unusedVariables false
set_option linter.unusedSimpArgs false

/-- The digits that a list of numbers gives. -/
def digD (zs : List Int) : List UInt8 := zs.map fun z => dig (z % 64).toNat
theorem digD_snoc (zs : List Int) (z : Int) : digD (zs ++ [z]) = digD zs ++ [dig (z % 64).toNat] := by simp [digD]
theorem digD_length (zs : List Int) : (digD zs).length = zs.length := by simp [digD]
theorem allD_digD (zs : List Int) : allD (digD zs) = true := by
  have : digD zs = (zs.map fun z => (z % 64).toNat).map dig := by simp [digD]
  rw [this]
  apply allD_map
  intro v hv
  obtain ⟨z, _, rfl⟩ := List.mem_map.1 hv
  omega

set_option maxRecDepth 100000 in
theorem once_big (ao : Option Addr) (len cap : Nat) (w : World) (hl : 400 < len) (hm : len ≤ maxLen) :
    Calls Tryd.prog 5 #[.slice ao len cap] w fun e w' => e = .returned (.bool true) ∧ Below w.heap.size w w' := by
  unfold maxLen at hm
  go_enter Tryd.func5, Tryd.ntmps5
  go_wp2_with (go_at_call 7; refine (awake_any _).mono ?_; rintro e w2 ⟨rfl, hb2⟩)
  go_ret
  exact ⟨rfl, hb2⟩

set_option maxRecDepth 100000 in
theorem once_walk (ao : Option Addr) (len cap : Nat) (zs : List Int) (w : World) (hl : len ≤ 400) (hlc : len ≤ cap) (hm : cap ≤ maxLen) (hz : len ≤ zs.length)
    (hcell : ∀ i, i < len → ∃ b off, ao = some ⟨b, off, none⟩ ∧ b < w.heap.size ∧ w.cell? ⟨b, off + i, none⟩ = some (.int .u8 (zs.getD i 0))) (hwz : ∀ i, 0 ≤ zs.getD i 0 ∧ zs.getD i 0 ≤ 255) (hT : Tab w) (h0 : 1 ≤ w.heap.size) :
    Calls Tryd.prog 5 #[.slice ao len cap] w fun e w' => e = .returned (.bool true) ∧ Below w.heap.size w w' := by
  unfold maxLen at hm
  obtain ⟨i0, hi, hz0, hz1, hz2⟩ := info_parts Tryd.info5
  obtain ⟨q, hq⟩ : ∃ q : Nat, (len : Int) / 4 = (q : Int) := ⟨len / 4, by omega⟩
  have hq100 : q ≤ 100 := by omega
  have hql : q * 4 ≤ len := by omega
  obtain ⟨D, hD⟩ : ∃ D, D = digD (zs.take (q * 4)) := ⟨_, rfl⟩
  have hDl : D.length = 4 * q := by rw [hD, digD_length, List.length_take]; omega
  have hDa : allD D = true := by rw [hD]; exact allD_digD _
  have hSl : (strL D).size = 4 * q := by show D.toArray.size = _; simpa using hDl
  have hXl : (strL (decL D)).size = 3 * q := by show (decL D).toArray.size = _; simpa using decL_length q D hDl
  have hdec : ∀ wx : World, Tab wx → 1 ≤ wx.heap.size → Calls Tryd.prog 11 #[.string (strL D)] wx fun e w' => e = .returned (.tuple #[.string (strL (decL D)), .int .i64 0]) ∧ Below wx.heap.size wx w' := by
    intro wx hTx h0x
    have h := decode_any (strL D) q wx hSl (by omega) h0x hTx
    have e1 : decS (strL D).data.toList = strL (decL D) := by unfold decS; rw [show (strL D).data.toList = D from rfl, hDa]; rfl
    have e2 : decE (strL D).data.toList = 0 := by unfold decE; rw [show (strL D).data.toList = D from rfl, hDa]; rfl
    rw [e1, e2] at h
    exact h
  have henc : ∀ wx : World, Calls Tryd.prog 9 #[.string (strL (decL D))] wx fun e w' => e = .returned (.tuple #[.string (strL D), .int .i64 0]) ∧ Below wx.heap.size wx w' := by
    intro wx
    have h := encode_any (strL (decL D)) q wx hXl (by omega)
    rw [show (strL (decL D)).data.toList = decL D from rfl, encL_decL q D hDl hDa] at h
    exact h
  obtain ⟨S, hS⟩ : ∃ S, S = strL D := ⟨_, rfl⟩
  obtain ⟨X, hX⟩ : ∃ X, X = strL (decL D) := ⟨_, rfl⟩
  rw [← hS, ← hX] at hdec henc
  have HDEC := Lib.hid hdec
  have HENC := Lib.hid henc
  have HD := Lib.hid hD
  have HS := Lib.hid hS
  have HC := Lib.hid hcell
  have HW := Lib.hid hwz
  have HT := Lib.hid hT
  have HZ := Lib.hid hz
  clear hT hdec henc hD hDl hDa hSl hXl hS hX hcell hwz hz
  go_enter Tryd.func5, Tryd.ntmps5
  go_wp2_with fail
  go_loopw [3, 23] (fun v i wr => ∃ j : Nat, j ≤ q * 4 ∧ i = .int .i64 j ∧ wr.ownsRow w.heap.size 5 1 v j (bytesV (digD (zs.take j))) ∧ Below w.heap.size w wr) (fun _ i _ => q * 4 - (intOf i).toNat)
  case atStart => exact ⟨0, Nat.zero_le _, rfl, World.ownsRow_nil _ _ _ _, Below.refl _ _⟩
  case round =>
    obtain ⟨j, hj, rfl, hown, hbel⟩ := hrel
    by_cases hlt : j < q * 4
    · obtain ⟨b, off, rfl, hbb, hc⟩ := HC.out j (by omega)
      have hcx : Tryd.prog = Tryd.prog ∧ _ := ⟨rfl, (hbel.cell (p := ⟨b, off + j, none⟩) hbb).trans hc⟩
      have hcell := hcx.2
      have hzb := HW.out j
      have htk : zs.take (j + 1) = zs.take j ++ [zs.getD j 0] := by
        have hjl : j < zs.length := by have := HZ.out; omega
        rw [List.take_succ_eq_append_getElem hjl]
        simp [List.getD, hjl]
      obtain ⟨z, hzz⟩ : ∃ z, z = zs.getD j 0 := ⟨_, rfl⟩
      rw [← hzz] at hcell hzb htk
      obtain ⟨m, hm⟩ : ∃ m : Nat, z % 64 = (m : Int) := ⟨(z % 64).toNat, by omega⟩
      have hdn : digD (zs.take (j + 1)) = digD (zs.take j) ++ [dig m] := by rw [htk, digD_snoc, hm]; rfl
      have HDN := Lib.hid hdn
      have hm64 : m < 64 := by omega
      have hdig := fun wx => digit_in m wx hm64
      have HDIG := Lib.hid hdig
      clear hcx hc hzz htk hdn hdig
      go_wp2_with (first
        | (go_at_call 18; refine (HDIG.out _).mono ?_; rintro e w2 ⟨rfl, rfl⟩)
        | (at_builtin; refine wpList_append_own _ rfl (.tmp 36) (.tmp 38) 41 rfl w.heap.size 5 i0 (.int .u8 0) 1 1 Tryd.underlying41 hi hz0 hz1 hz2 rfl (by decide) _ j _ rfl (hown.alloc _) ⟨wr.heap.size, 0, none⟩ 1 1 [.int .u8 (dig m).toNat] rfl rfl (cell_one_new _ _ _) (by intro u hu; simp at hu; subst hu; rfl) (by unfold maxLen; omega) (by omega) (by have := hbel.size; simp; omega) ?_))
      intro v' w2 hown2 hgrow _
      have hbel2 := obelow (hbel.alloc hbel.size _) (hown.alloc _) hgrow (by have := hbel.size; simp; omega)
      have hown3 : w2.ownsRow w.heap.size 5 1 v' (j + 1) (bytesV (digD (zs.take (j + 1)))) := by
        rw [HDN.out, bytesV_append]
        exact hown2
      clear hown2 hgrow hown hbel
      go_wp2
      go_roundw
      case rel => exact ⟨j + 1, by omega, by go_num, hown3, hbel2⟩
      case measure => simp [intOf]; omega
    · have : j = q * 4 := by omega
      subst this
      rw [← HD.out] at hown
      have hconv : ∀ wx : World, Below wr.heap.size wr wx → (convert 41 9 _).run Tryd.prog wx = .ok (.string S) wx := fun wx hx => by
        rw [HS.out]; exact conv_owns (P := Tryd.prog) wx 41 9 5 w.heap.size (q * 4) _ D (owns_below hown hx) Tryd.underlying41 Tryd.underlying5 Tryd.underlying9
      have HCV := Lib.hid hconv
      have hcv := hconv wr (Below.refl _ _)
      have hTr : Tab wr := fun i hi => (hbel.cell (p := ⟨0, i, none⟩) (by show (0 : Nat) < _; omega)).trans (HT.out i hi)
      have HTR := Lib.hid hTr
      have h0r : 1 ≤ wr.heap.size := Nat.le_trans h0 hbel.size
      clear hconv hown hTr
      go_wp2_with (first
        | (go_at_call 11; refine (HDEC.out _ HTR.out h0r).mono ?_; rintro e w2 ⟨rfl, hb2⟩)
        | (go_at_call 9; refine (HENC.out _).mono ?_; rintro e w3 ⟨rfl, hb3⟩; have hb4 := hb2.trans (hb3.mono hb2.size); have hcv3 := HCV.out _ hb4)
        | (go_at_call 7; refine (awake_any _).mono ?_; rintro e w5 ⟨rfl, hb5⟩))
      go_ret
      have H := hbel.trans (hb4.mono hbel.size)
      exact ⟨rfl, H.trans (hb5.mono H.size)⟩

theorem once_all (ao : Option Addr) (len cap : Nat) (zs : List Int) (w : World) (h : IsRow .u8 w ao len cap zs) (hT : Tab w) (h0 : 1 ≤ w.heap.size) :
    Calls Tryd.prog 5 #[.slice ao len cap] w fun e w' => e = .returned (.bool true) ∧ Below w.heap.size w w' := by
  obtain ⟨h1, h2, h3, h4, h5⟩ := h
  by_cases hl : 400 < len
  · exact once_big ao len cap w hl (Nat.le_trans h1 h2)
  · exact once_walk ao len cap zs w (by omega) h1 h2 (by omega) (fun i hi => h4 i (by omega)) (fun i => range_u8 h5 i) hT h0

end Go.Proofs.YtgpilklgaipboaaDoor
