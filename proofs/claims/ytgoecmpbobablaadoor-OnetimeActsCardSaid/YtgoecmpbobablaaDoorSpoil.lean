/- The contract of Spoil: some string of the same length comes back, and no old memory is changed. -/
import Derived.Test.YtgoecmpbobablaaDoorAwake
namespace Go.Proofs.YtgoecmpbobablaaDoor
open Go.ChangeShapes Go.WideShapes Go.ChangeAt Go.RowKit
set_option linter.unusedVariables false
set_option linter.unusedSimpArgs false

/-- Some string of this length. -/
def SomeStr (n : Nat) (w : World) (e : Ending) (w' : World) : Prop := ∃ r : ByteArray, e = .returned (.string r) ∧ r.size = n ∧ Below w.heap.size w w'

set_option maxRecDepth 100000 in
theorem spoil_any (s : ByteArray) (n b : Int) (w : World) (hm : s.size < 2 ^ 50) (h1 : -9223372036854775808 ≤ n) (h2 : n ≤ 9223372036854775807) :
    Calls Tryd.prog 19 #[.string s, .int .i64 n, .int .i64 b] w (SomeStr s.size w) := by
  by_cases hz : s.size = 0
  · have e1 : s.toList = [] := by
      rw [ByteArray.toList_eq]
      exact List.length_eq_zero_iff.1 (by rw [Array.length_toList]; exact hz)
    have HZ := Lib.hid hz
    clear hz
    go_enter Tryd.func19, Tryd.ntmps19
    go_wp2
    go_ret
    exact ⟨s, rfl, rfl, Below.refl _ _⟩
  · have e1 : s.toList.isEmpty = false := by
      rw [ByteArray.toList_eq]
      have : s.data.toList.length ≠ 0 := by rw [Array.length_toList]; exact hz
      cases h : s.data.toList with
      | nil => rw [h] at this; exact absurd rfl this
      | cons a l => rfl
    have e2 : s.toList ≠ [] := by intro e; rw [e] at e1; cases e1
    obtain ⟨C, W1, hconv, hrow, hbel, hlt⟩ := bytes_of (P := Tryd.prog) w 9 36 5 s Tryd.underlying9 Tryd.underlying36 Tryd.underlying5
    obtain ⟨L, hL⟩ : ∃ L, L = s.size := ⟨_, rfl⟩
    obtain ⟨i, hi⟩ : ∃ i : Nat, n % (L : Int) = (i : Int) := ⟨(n % (L : Int)).toNat, by have := Int.emod_nonneg n (b := (L : Int)) (by omega); omega⟩
    have hiL : i < L := by have := Int.emod_lt_of_pos n (b := (L : Int)) (by omega); omega
    have hmod := mod_any n L W1 (by omega) (by omega) h1 h2
    rw [hi] at hmod
    have HM := Lib.hid hmod
    have hlen : s.data.toList.length = L := by rw [Array.length_toList, hL]; rfl
    have hcell : W1.cell? ⟨w.heap.size, i, none⟩ = some (.int .u8 ((s.data.toList.getD i 0).toNat : Int)) := hrow.cellAt (by
      rw [List.getElem?_map, List.getD, List.getElem?_eq_getElem (by omega)]
      rfl)
    obtain ⟨x, hx⟩ : ∃ x : Nat, x = (s.data.toList.getD i 0).toNat := ⟨_, rfl⟩
    have hx256 : x < 256 := by rw [hx]; exact UInt8.toNat_lt _
    rw [← hx] at hcell
    obtain ⟨c, hc⟩ : ∃ c : UInt8, (c.toNat : Int) = ((x : Int) + b) % 256 := ⟨UInt8.ofNat (((x : Int) + b) % 256).toNat, by rw [UInt8.toNat_ofNat']; omega⟩
    have hst := hrow.store i (.int .u8 (c.toNat : Int))
    rw [← List.map_set (f := fun b : UInt8 => Value.int .u8 (b.toNat : Int))] at hst
    have hback := conv_row (P := Tryd.prog) _ 36 9 5 w.heap.size 5 s.size C (s.data.toList.set i c) (by rw [List.length_set, hlen, hL]) hst Tryd.underlying36 Tryd.underlying5 Tryd.underlying9
    rw [hc, ← hL] at hback
    have hfr : W1.frozen? ⟨w.heap.size, i, none⟩ = false := (hrow.there (by omega)).2
    rw [← hL] at hconv
    have HL := Lib.hid hL
    have HB := Lib.hid hbel
    have HR := Lib.hid hrow
    clear hmod hi hL hbel hrow hz hc hst hx
    go_enter Tryd.func19, Tryd.ntmps19
    go_wp2_with (go_at_call 22; refine (HM.out).mono ?_; rintro e w2 ⟨rfl, rfl⟩)
    go_ret
    refine ⟨_, rfl, ?_, HB.out.setCell (Nat.le_refl _) _⟩
    show (List.set _ _ _).toArray.size = _
    rw [List.size_toArray, List.length_set, hlen, HL.out]

end Go.Proofs.YtgoecmpbobablaaDoor
