/- Contracts of the small helpers: Mod, and the sanity check 'awake' of the statements of base64; the table of values out of what the rows list. -/
import Derived.Test.YtpophimnoakinaaDoorBasf
import Derived.LaidMore
import Derived.Lib.LaidTab
import Derived.Stop.Joined
namespace Go.Proofs.YtpophimnoakinaaDoor
open Go.ChangeShapes Go.WideShapes Go.ChangeAt Go.RowKit
set_option linter.unusedVariables false
set_option linter.unusedSimpArgs false


/-- Mod with a positive modulus is Euclid's remainder. -/
theorem mod_any (n : Int) (m : Nat) (w : World) (h1 : 1 ≤ m) (hm : m < 2 ^ 62) (hlo : -9223372036854775808 ≤ n) (hhi : n ≤ 9223372036854775807) :
    Calls Tryd.prog 16 #[.int .i64 n, .int .i64 m] w fun e w' => e = .returned (.int .i64 (n % (m : Int))) ∧ w = w' := by
  obtain ⟨r, hr⟩ : ∃ r, r = n.tmod (m : Int) := ⟨_, rfl⟩
  have h0 : ¬ (m : Int) = 0 := by omega
  have hr1 : -(m : Int) < r := by
    rw [hr]
    have a1 := Int.lt_tmod_of_pos n (b := (m : Int)) (by omega)
    omega
  have hr2 : r < (m : Int) := by rw [hr]; exact Int.tmod_lt_of_pos n (by omega)
  have hfin : (r + (m : Int)) % (m : Int) = n % (m : Int) := by
    rw [hr, Int.add_emod_right, Int.tmod_eq_emod]
    split
    · simp
    · rw [Int.sub_emod]
      simp
  have hfin2 : r % (m : Int) = n % (m : Int) := by rw [← hfin]; simp
  have HF2 := Lib.hid hfin2
  have HF := Lib.hid hfin
  have hr' : n.tmod (m : Int) = r := hr.symm
  have hmz : ((m : Int) == 0) = false := by simp; omega
  clear hr hfin hfin2
  by_cases hn : 0 ≤ n
  · have hr3 : n % (m : Int) = r := by rw [← hr', Int.tmod_eq_emod, if_pos (.inl hn)]; simp
    go_enter Tryd.func16, Tryd.ntmps16
    go_wp2
    go_ret
    first | (rw [HF.out]; exact ⟨rfl, rfl⟩) | (rw [HF2.out]; exact ⟨rfl, rfl⟩)
  · go_enter Tryd.func16, Tryd.ntmps16
    go_wp2
    go_ret
    first | (rw [HF.out]; exact ⟨rfl, rfl⟩) | (rw [HF2.out]; exact ⟨rfl, rfl⟩)

set_option maxRecDepth 100000 in
theorem encode_zeros (w : World) : Calls Tryd.prog 76 #[.string ⟨#[0, 0, 0]⟩] w fun e w' => e = .returned (.tuple #[.string ⟨#[65, 65, 65, 65]⟩, .int .i64 0]) ∧ Below w.heap.size w w' := by
  have e1 : strL (encL (⟨#[0, 0, 0]⟩ : ByteArray).data.toList) = ⟨#[65, 65, 65, 65]⟩ := by kernel_rfl
  have h := encode_any ⟨#[0, 0, 0]⟩ 1 w rfl (by decide)
  rw [e1] at h
  exact h

set_option maxRecDepth 100000 in
theorem encode_ones (w : World) : Calls Tryd.prog 76 #[.string ⟨#[255, 255, 255]⟩] w fun e w' => e = .returned (.tuple #[.string ⟨#[95, 95, 95, 95]⟩, .int .i64 0]) ∧ Below w.heap.size w w' := by
  have e1 : strL (encL (⟨#[255, 255, 255]⟩ : ByteArray).data.toList) = ⟨#[95, 95, 95, 95]⟩ := by kernel_rfl
  have h := encode_any ⟨#[255, 255, 255]⟩ 1 w rfl (by decide)
  rw [e1] at h
  exact h


end Go.Proofs.YtpophimnoakinaaDoor
/- The contract of Spoil: some string of the same length comes back, and no old memory is changed. -/
namespace Go.Proofs.YtpophimnoakinaaDoor
open Go.ChangeShapes Go.WideShapes Go.ChangeAt Go.RowKit
set_option linter.unusedVariables false
set_option linter.unusedSimpArgs false

/-- Some string of this length. -/
def SomeStr (n : Nat) (w : World) (e : Ending) (w' : World) : Prop := ∃ r : ByteArray, e = .returned (.string r) ∧ r.size = n ∧ Below w.heap.size w w'

set_option maxRecDepth 100000 in
theorem spoil_any (s : ByteArray) (n b : Int) (w : World) (hm : s.size < 2 ^ 50) (h1 : -9223372036854775808 ≤ n) (h2 : n ≤ 9223372036854775807) :
    Calls Tryd.prog 19 #[.string s, .int .i64 n, .int .i64 b] w (SomeStr s.size w) := by
  by_cases hz : s.size = 0
  · have e1 : s.toList = [] := by
      rw [ByteArray.toList_eq]
      exact List.length_eq_zero_iff.1 (by rw [Array.length_toList]; exact hz)
    have HZ := Lib.hid hz
    clear hz
    go_enter Tryd.func19, Tryd.ntmps19
    go_wp2
    go_ret
    exact ⟨s, rfl, rfl, Below.refl _ _⟩
  · have e1 : s.toList.isEmpty = false := by
      rw [ByteArray.toList_eq]
      have : s.data.toList.length ≠ 0 := by rw [Array.length_toList]; exact hz
      cases h : s.data.toList with
      | nil => rw [h] at this; exact absurd rfl this
      | cons a l => rfl
    have e2 : s.toList ≠ [] := by intro e; rw [e] at e1; cases e1
    obtain ⟨C, W1, hconv, hrow, hbel, hlt⟩ := bytes_of (P := Tryd.prog) w 9 35 5 s Tryd.underlying9 Tryd.underlying35 Tryd.underlying5
    obtain ⟨L, hL⟩ : ∃ L, L = s.size := ⟨_, rfl⟩
    obtain ⟨i, hi⟩ : ∃ i : Nat, n % (L : Int) = (i : Int) := ⟨(n % (L : Int)).toNat, by have := Int.emod_nonneg n (b := (L : Int)) (by omega); omega⟩
    have hiL : i < L := by have := Int.emod_lt_of_pos n (b := (L : Int)) (by omega); omega
    have hmod := mod_any n L W1 (by omega) (by omega) h1 h2
    rw [hi] at hmod
    have HM := Lib.hid hmod
    have hlen : s.data.toList.length = L := by rw [Array.length_toList, hL]; rfl
    have hcell : W1.cell? ⟨w.heap.size, i, none⟩ = some (.int .u8 ((s.data.toList.getD i 0).toNat : Int)) := hrow.cellAt (by
      rw [List.getElem?_map, List.getD, List.getElem?_eq_getElem (by omega)]
      rfl)
    obtain ⟨x, hx⟩ : ∃ x : Nat, x = (s.data.toList.getD i 0).toNat := ⟨_, rfl⟩
    have hx256 : x < 256 := by rw [hx]; exact UInt8.toNat_lt _
    rw [← hx] at hcell
    obtain ⟨c, hc⟩ : ∃ c : UInt8, (c.toNat : Int) = ((x : Int) + b) % 256 := ⟨UInt8.ofNat (((x : Int) + b) % 256).toNat, by rw [UInt8.toNat_ofNat']; omega⟩
    have hst := hrow.store i (.int .u8 (c.toNat : Int))
    rw [← List.map_set (f := fun b : UInt8 => Value.int .u8 (b.toNat : Int))] at hst
    have hback := conv_row (P := Tryd.prog) _ 35 9 5 w.heap.size 5 s.size C (s.data.toList.set i c) (by rw [List.length_set, hlen, hL]) hst Tryd.underlying35 Tryd.underlying5 Tryd.underlying9
    rw [hc, ← hL] at hback
    have hfr : W1.frozen? ⟨w.heap.size, i, none⟩ = false := (hrow.there (by omega)).2
    rw [← hL] at hconv
    have HL := Lib.hid hL
    have HB := Lib.hid hbel
    have HR := Lib.hid hrow
    clear hmod hi hL hbel hrow hz hc hst hx
    go_enter Tryd.func19, Tryd.ntmps19
    go_wp2_with (go_at_call 16; refine (HM.out).mono ?_; rintro e w2 ⟨rfl, rfl⟩)
    go_ret
    refine ⟨_, rfl, ?_, HB.out.setCell (Nat.le_refl _) _⟩
    show (List.set _ _ _).toArray.size = _
    rw [List.size_toArray, List.length_set, hlen, HL.out]

end Go.Proofs.YtpophimnoakinaaDoor
