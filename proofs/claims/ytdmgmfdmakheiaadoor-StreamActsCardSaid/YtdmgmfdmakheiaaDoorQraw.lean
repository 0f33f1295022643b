/- The contract of rawOf of package primitive: the raw bytes behind a text that has the code and the size of a layout. -/
import Derived.Test.YtdmgmfdmakheiaaDoorQenc
namespace Go.Proofs.YtdmgmfdmakheiaaDoor
open Go.ChangeShapes Go.WideShapes Go.ChangeAt Go.RowKit
set_option linter.unusedVariables false
set_option linter.unusedSimpArgs false

theorem Tab.lt {w : World} (h : Tab w) : 2 < w.heap.size := cell_lt (h 0 (by omega))
theorem Tab.below {w w' : World} (h : Tab w) {B : Nat} (hB : 2 < B) (hb : Below B w w') : Tab w' := fun i hi => (hb.cell (p := ⟨2, i, none⟩) hB).trans (h i hi)
theorem Tab.go {w w' : World} (h : Tab w) (hb : Below w.heap.size w w') : Tab w' := h.below h.lt hb

set_option maxHeartbeats 1600000 in
set_option maxRecDepth 100000 in
theorem yraw_of (cs x R : ByteArray) (b l : Nat) (E : Int) (w : World) (hb : b ≤ 1000) (hl : (3 - b % 3) % 3 = l) (hc : cs.size ≤ x.size) (hx : x.size ≤ 1000) (hT : Tab w)
    (hD : ∀ wx : World, Tab wx → Calls Tryd.prog 57 #[.string (({ data := #[65, 65] } : ByteArray).extract 0 l ++ x.extract cs.size x.size)] wx fun e w' => e = .returned (.tuple #[.string R, .int .i64 E]) ∧ Below wx.heap.size wx w')
    (h4 : E ≠ 0 → E = 4) (hR : E = 0 → l ≤ R.size) :
    Calls Tryd.prog 61 #[.agg #[.string cs, .int .i64 (b : Int)], .string x] w fun e w' => e = .returned (if E ≠ 0 ∨ R.extract 0 l ≠ (⟨#[0, 0]⟩ : ByteArray).extract 0 l then .tuple #[.string ⟨#[]⟩, .int .i64 4] else .tuple #[.string (R.extract l R.size), .int .i64 0]) ∧ Below w.heap.size w w' := by
  obtain ⟨V, hV⟩ : ∃ V : Value, V = (if E ≠ 0 ∨ R.extract 0 l ≠ (⟨#[0, 0]⟩ : ByteArray).extract 0 l then .tuple #[.string ⟨#[]⟩, .int .i64 4] else .tuple #[.string (R.extract l R.size), .int .i64 0]) := ⟨_, rfl⟩
  rw [← hV]
  have HV := Lib.hid hV
  clear hV
  have Ld := Lib.hid (fun (wx : World) => ylead_any cs b l wx hb hl)
  have hl2 : l ≤ 2 := by omega
  have hl0 : (0 : Int) ≤ (l : Int) := by omega
  have hl2' : (l : Int) ≤ 2 := by omega
  have hc' : (cs.size : Int) ≤ (x.size : Int) := by omega
  have HD := Lib.hid hD
  have HR := Lib.hid hR
  have H4 := Lib.hid h4
  have bx := (Below.refl w.heap.size w).alloc (o := .cells #[.string cs, .int .i64 (b : Int)] 94) (Nat.le_refl _)
  have HT := Lib.hid (show Tab (w.alloc (.cells #[.string cs, .int .i64 (b : Int)] 94)).drew from hT.go bx.drew)
  have k0 := two_new w (.string cs) (.int .i64 (b : Int)) 94
  have g0 : w.heap.size < (w.alloc (.cells #[.string cs, .int .i64 (b : Int)] 94)).heap.size := by simp
  have hcat : ¬ 9223372036854775807 < l + (x.size - cs.size) := by omega
  clear hD hR h4 hl hT
  go_enter Tryd.func61, Tryd.ntmps61
  go_wp2
  go_region_held3 (fun w' => w'.cell? ⟨w.heap.size, 0, none⟩ = some (.string cs) ∧ w'.cell? ⟨w.heap.size, 1, none⟩ = some (.int .i64 (b : Int))) (first | exact k0 | exact k1 | exact k2)
    (first
      | (go_at_call 69; refine (Ld.out _).mono ?_; rintro e w1 ⟨rfl, hb1⟩; have k1 := two_keep hb1 g0 k0; have g1 := Nat.lt_of_lt_of_le g0 hb1.size; have T1 := Lib.hid (HT.out.go hb1))
      | (go_at_call 57; refine (HD.out _ T1.out).mono ?_; rintro e w2 ⟨rfl, hb2⟩; have k2 := two_keep hb2 g1 k1; have g2 := Nat.lt_of_lt_of_le g1 hb2.size))
  have b2 := (bx.drew.trans (hb1.mono (Nat.le_of_lt g0))).trans (hb2.mono (Nat.le_of_lt g1))
  clear k0 k1 g0 g1 bx hb1 hb2 T1 HT
  by_cases he : E = 0
  · have hRl : (l : Int) ≤ (R.size : Int) := by have := HR.out he; omega
    by_cases hz : R.extract 0 l = ({ data := #[0, 0] } : ByteArray).extract 0 l
    · have hzq := same_str hz
      have hv := HV.out
      rw [if_neg (by simp [he, hz])] at hv
      have HW := Lib.hid hv
      clear hv
      have hed : (E != 0) = false := by simp [he]
      clear hz
      go_wp2
      go_region_held3 (fun w' => w'.cell? ⟨w.heap.size, 0, none⟩ = some (.string cs) ∧ w'.cell? ⟨w.heap.size, 1, none⟩ = some (.int .i64 (b : Int))) (first | exact k2 | exact k3 | exact k4)
        (first
          | (go_at_call 69; refine (Ld.out _).mono ?_; rintro e w3 ⟨rfl, hb3⟩; have k3 := two_keep hb3 g2 k2; have g3 := Nat.lt_of_lt_of_le g2 hb3.size)
          | (go_at_call 69; refine (Ld.out _).mono ?_; rintro e w4 ⟨rfl, hb4⟩; have k4 := two_keep hb4 g3 k3; have g4 := Nat.lt_of_lt_of_le g3 hb4.size))
      have b4 := (b2.drew.trans (hb3.mono (Nat.le_of_lt g2))).trans (hb4.mono (Nat.le_of_lt g3))
      clear b2 hb3 hb4 k2 k3 g2 g3
      go_wp2_with (go_at_call 69; (with_reducible refine (Ld.out _).mono ?_); rintro e w5 ⟨rfl, hb5⟩)
      go_ret2
      exact ⟨by rw [HW.out]; rfl, b4.trans (hb5.mono (Nat.le_of_lt g4))⟩
    · have hzq := other_str hz
      have hv := HV.out
      rw [if_pos (.inr hz)] at hv
      have HW := Lib.hid hv
      clear hv
      have hed : (E != 0) = false := by simp [he]
      clear hz
      go_wp2
      go_region_held3 (fun w' => w'.cell? ⟨w.heap.size, 0, none⟩ = some (.string cs) ∧ w'.cell? ⟨w.heap.size, 1, none⟩ = some (.int .i64 (b : Int))) (first | exact k2 | exact k3 | exact k4)
        (first
          | (go_at_call 69; refine (Ld.out _).mono ?_; rintro e w3 ⟨rfl, hb3⟩; have k3 := two_keep hb3 g2 k2; have g3 := Nat.lt_of_lt_of_le g2 hb3.size)
          | (go_at_call 69; refine (Ld.out _).mono ?_; rintro e w4 ⟨rfl, hb4⟩; have k4 := two_keep hb4 g3 k3; have g4 := Nat.lt_of_lt_of_le g3 hb4.size))
      have b4 := (b2.drew.trans (hb3.mono (Nat.le_of_lt g2))).trans (hb4.mono (Nat.le_of_lt g3))
      clear b2 hb3 hb4 k2 k3 g2 g3
      go_wp2
      go_ret2
      exact ⟨by rw [HW.out]; rfl, b4⟩
  · have hv := HV.out
    rw [if_pos (.inl he)] at hv
    have HW := Lib.hid hv
    clear hv
    have hed : (E != 0) = true := by simp [he]
    have h4 := H4.out he
    subst h4
    go_wp2
    go_ret2
    exact ⟨by rw [HW.out]; rfl, b2⟩

end Go.Proofs.YtdmgmfdmakheiaaDoor
