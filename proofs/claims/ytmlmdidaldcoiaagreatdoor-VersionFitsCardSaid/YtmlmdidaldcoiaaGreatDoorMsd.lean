/- The program's table of scales as data, and what a row writes. No program. -/
import Derived.Test.YtmlmdidaldcoiaaGreatDoorMpd
namespace Go.Proofs.YtmlmdidaldcoiaaGreatDoor
set_option linter.unusedVariables false
set_option linter.unusedSimpArgs false

/-- A row of the table of scales. -/
structure ScR where
 kind : Int
 least : Int
 count : Int
 first : Int
 wide : Int
 widths : List Int
def scTab : List ScR := [⟨0, 0, 1, 192, 0, []⟩, ⟨1, 0, 2, 194, 0, []⟩, ⟨2, 0, 128, 0, 204, [1, 2, 4, 8]⟩, ⟨2, -32, 32, 224, 208, [1, 2, 4, 8]⟩, ⟨3, 0, 32, 160, 217, [1, 2, 4]⟩, ⟨4, 0, 16, 144, 220, [2]⟩, ⟨5, 0, 16, 128, 222, [2]⟩]
def scR (i : Nat) : ScR := scTab.getD i ⟨0, 0, 0, 0, 0, []⟩
theorem scR_any {P : ScR → Prop} (h0 : P ⟨0, 0, 1, 192, 0, []⟩) (h1 : P ⟨1, 0, 2, 194, 0, []⟩) (h2 : P ⟨2, 0, 128, 0, 204, [1, 2, 4, 8]⟩) (h3 : P ⟨2, -32, 32, 224, 208, [1, 2, 4, 8]⟩) (h4 : P ⟨3, 0, 32, 160, 217, [1, 2, 4]⟩) (h5 : P ⟨4, 0, 16, 144, 220, [2]⟩) (h6 : P ⟨5, 0, 16, 128, 222, [2]⟩) : ∀ i, i < 7 → P (scR i)
 | 0, _ => h0
 | 1, _ => h1
 | 2, _ => h2
 | 3, _ => h3
 | 4, _ => h4
 | 5, _ => h5
 | 6, _ => h6
 | n + 7, h => absurd h (by omega)
/-- Whether a number fits into so many bytes. -/
def fitZ (z k : Int) : Bool := if k = 1 then decide (-128 ≤ z ∧ z < 256) else if k = 2 then decide (-32768 ≤ z ∧ z < 65536) else if k = 4 then decide (-2147483648 ≤ z ∧ z < 4294967296) else true
/-- What is written in the first width into which a number fits; j widths came before. -/
def sWide (b z : Int) : List Int → Nat → List UInt8
 | [], _ => []
 | k :: t, j => if fitZ z k then UInt8.ofNat (b.toNat + j) :: bigL (u64N z) k.toNat else sWide b z t (j + 1)
/-- What a row writes of a number. -/
def sText (r : ScR) (z : Int) : List UInt8 := if r.least ≤ z ∧ z < r.least + r.count then [UInt8.ofNat (r.first + (z - r.least)).toNat] else sWide r.wide z r.widths 0
/-- The row of a valid node. -/
def sIx (x : ND) : Nat := if x.kind = 0 then 0 else if x.kind = 1 then 1 else if x.kind = 2 then (if x.num < 0 then 3 else 2) else if x.kind = 3 then 4 else if x.kind = 4 then 5 else 6
theorem u64_mod (z : Int) (h1 : -9223372036854775808 ≤ z) (h2 : z ≤ 9223372036854775807) : u64N z % 256 = (z % 256).toNat := by unfold u64N; omega
theorem sText_pos (z : Int) (h1 : 0 ≤ z) (h2 : z ≤ 9223372036854775807) : sText (scR 2) z = headP (numH z) (u64N z) := by
 show (if (0 : Int) ≤ z ∧ z < 0 + 128 then [UInt8.ofNat ((0 : Int) + (z - 0)).toNat] else sWide 204 z [1, 2, 4, 8] 0) = _
 unfold numH headP
 by_cases a : z < 128
 ·rw [if_pos ⟨h1, by omega⟩, if_pos ⟨by omega, a⟩]
  dsimp only
  rw [u64_mod z (by omega) h2, show (0 + (z - 0)).toNat = (z % 256).toNat by omega]
  rfl
 ·rw [if_neg (by omega), if_neg (by omega), if_pos (by omega)]
  unfold sWide
  by_cases b : z < 256
  ·rw [if_pos b, show fitZ z 1 = true by unfold fitZ; simp; omega]; rfl
  rw [if_neg b, show fitZ z 1 = false by unfold fitZ; simp; omega]
  unfold sWide
  by_cases b : z < 65536
  ·rw [if_pos b, show fitZ z 2 = true by unfold fitZ; simp; omega]; rfl
  rw [if_neg b, show fitZ z 2 = false by unfold fitZ; simp; omega]
  unfold sWide
  by_cases b : z < 4294967296
  ·rw [if_pos b, show fitZ z 4 = true by unfold fitZ; simp; omega]; rfl
  rw [if_neg b, show fitZ z 4 = false by unfold fitZ; simp; omega]
  rfl
theorem sText_neg (z : Int) (h1 : -9223372036854775808 ≤ z) (h2 : z < 0) : sText (scR 3) z = headP (numH z) (u64N z) := by
 show (if (-32 : Int) ≤ z ∧ z < -32 + 32 then [UInt8.ofNat ((224 : Int) + (z - -32)).toNat] else sWide 208 z [1, 2, 4, 8] 0) = _
 unfold numH headP
 by_cases a : -32 ≤ z
 ·rw [if_pos ⟨a, by omega⟩, if_pos ⟨by omega, by omega⟩]
  dsimp only
  rw [u64_mod z (by omega) (by omega), show (224 + (z - -32)).toNat = (z % 256).toNat by omega]
  rfl
 ·rw [if_neg (by omega), if_neg (by omega), if_neg (by omega)]
  unfold sWide
  by_cases b : -128 ≤ z
  ·rw [if_pos b, show fitZ z 1 = true by unfold fitZ; simp; omega]; rfl
  rw [if_neg b, show fitZ z 1 = false by unfold fitZ; simp; omega]
  unfold sWide
  by_cases b : -32768 ≤ z
  ·rw [if_pos b, show fitZ z 2 = true by unfold fitZ; simp; omega]; rfl
  rw [if_neg b, show fitZ z 2 = false by unfold fitZ; simp; omega]
  unfold sWide
  by_cases b : -2147483648 ≤ z
  ·rw [if_pos b, show fitZ z 4 = true by unfold fitZ; simp; omega]; rfl
  rw [if_neg b, show fitZ z 4 = false by unfold fitZ; simp; omega]
  rfl
theorem u64_nat (n : Nat) (h : n < 18446744073709551616) : u64N (n : Int) = n := by unfold u64N; omega
theorem sText_txt (n : Nat) (h : n ≤ 65536) : sText (scR 4) (n : Int) = headP (txtH n) n := by
 show (if (0 : Int) ≤ (n : Int) ∧ (n : Int) < 0 + 32 then [UInt8.ofNat ((160 : Int) + ((n : Int) - 0)).toNat] else sWide 217 (n : Int) [1, 2, 4] 0) = _
 unfold txtH headP
 by_cases a : n < 32
 ·rw [if_pos ⟨by omega, by omega⟩, if_pos a, show (160 + ((n : Int) - 0)).toNat = 160 + n by omega]; rfl
 ·rw [if_neg (by omega), if_neg a]
  unfold sWide
  rw [u64_nat n (by omega)]
  by_cases b : n < 256
  ·rw [if_pos b, show fitZ (n : Int) 1 = true by unfold fitZ; simp; omega]; rfl
  rw [if_neg b, show fitZ (n : Int) 1 = false by unfold fitZ; simp; omega]
  unfold sWide
  rw [u64_nat n (by omega)]
  by_cases b : n < 65536
  ·rw [if_pos b, show fitZ (n : Int) 2 = true by unfold fitZ; simp; omega]; rfl
  rw [if_neg b, show fitZ (n : Int) 2 = false by unfold fitZ; simp; omega]
  unfold sWide
  rw [u64_nat n (by omega), show fitZ (n : Int) 4 = true by unfold fitZ; simp; omega]
  rfl
theorem sText_lst (n : Nat) (h : n ≤ 256) : sText (scR 5) (n : Int) = headP (lstH n) n ∧ sText (scR 6) (n : Int) = headP (mapH n) n := by
 refine ⟨?_, ?_⟩
 ·show (if (0 : Int) ≤ (n : Int) ∧ (n : Int) < 0 + 16 then [UInt8.ofNat ((144 : Int) + ((n : Int) - 0)).toNat] else sWide 220 (n : Int) [2] 0) = _
  unfold lstH headP
  by_cases a : n < 16
  ·rw [if_pos ⟨by omega, by omega⟩, if_pos a, show (144 + ((n : Int) - 0)).toNat = 144 + n by omega]; rfl
  ·rw [if_neg (by omega), if_neg a]
   unfold sWide
   rw [u64_nat n (by omega), show fitZ (n : Int) 2 = true by unfold fitZ; simp; omega]; rfl
 ·show (if (0 : Int) ≤ (n : Int) ∧ (n : Int) < 0 + 16 then [UInt8.ofNat ((128 : Int) + ((n : Int) - 0)).toNat] else sWide 222 (n : Int) [2] 0) = _
  unfold mapH headP
  by_cases a : n < 16
  ·rw [if_pos ⟨by omega, by omega⟩, if_pos a, show (128 + ((n : Int) - 0)).toNat = 128 + n by omega]; rfl
  ·rw [if_neg (by omega), if_neg a]
   unfold sWide
   rw [u64_nat n (by omega), show fitZ (n : Int) 2 = true by unfold fitZ; simp; omega]; rfl
/-- A valid node's row: its kind, its sign, and that it writes the node's head. -/
theorem sIx_ok {d : Nat} {x : ND} (h : validN (d + 1) x = true) (hn : numsB (d + 1) x = true) : sIx x < 7 ∧ (scR (sIx x)).kind = x.kind ∧ ((scR (sIx x)).least < 0 ↔ pPay x < 0) ∧ sText (scR (sIx x)) (pPay x) = headP (pHd x) (pVal x) ∧ (∀ j, j < sIx x → ¬ ((scR j).kind = x.kind ∧ ((scR j).least < 0 ↔ pPay x < 0))) ∧ -9223372036854775808 ≤ pPay x ∧ pPay x ≤ 9223372036854775807 := by
 obtain ⟨hi, hl, htx, hns⟩ := validN_parts h
 obtain ⟨hw, hni⟩ := numsB_parts hn
 have h1 := textOk_le htx
 unfold wideI at hw
 rw [Bool.and_eq_true, decide_eq_true_eq, decide_eq_true_eq] at hw
 have hk := kinds h
 obtain ⟨k, b, n, t, ns, its⟩ := x
 unfold nd0 at hk
 simp only [ND.mk.injEq, ND.kind, ND.bool, ND.num, ND.text, ND.names, ND.items] at *
 rcases hk with ⟨rfl, rfl, rfl, rfl, rfl, rfl⟩ | ⟨rfl, -, rfl, rfl, rfl, rfl⟩ | ⟨rfl, rfl, -, rfl, rfl, rfl⟩ | ⟨rfl, rfl, rfl, -, rfl, rfl⟩ | ⟨rfl, rfl, rfl, rfl, rfl, -⟩ | ⟨⟨rfl, rfl, rfl, rfl, -, -⟩, hlx⟩
 ·exact ⟨by decide, rfl, by decide, rfl, fun j hj => absurd hj (Nat.not_lt_zero _), by decide, by decide⟩
 ·have hj0 : ∀ (P : Prop) (j : Nat), j < 1 → ¬ ((scR j).kind = 1 ∧ P) := fun P j hj => by
   obtain rfl : j = 0 := by omega
   exact fun e => absurd e.1 (by decide)
  cases b <;> exact ⟨by decide, rfl, by decide, rfl, fun j hj => hj0 _ j hj, by decide, by decide⟩
 ·have hp : pPay (.mk 2 false n ⟨#[]⟩ [] []) = n := rfl
  rw [hp]
  by_cases q : n < 0
  ·rw [show sIx (.mk 2 false n ⟨#[]⟩ [] []) = 3 by unfold sIx; simp [ND.kind, ND.num, q]]
   refine ⟨by decide, rfl, ⟨fun _ => q, fun _ => by decide⟩, ?_, fun j hj => ?_, hw.1, hw.2⟩
   ·rw [sText_neg n hw.1 q]; rfl
   ·obtain rfl | rfl | rfl : j = 0 ∨ j = 1 ∨ j = 2 := by omega
    ·exact fun e => absurd e.1 (by decide)
    ·exact fun e => absurd e.1 (by decide)
    ·exact fun e => absurd (e.2.2 q) (by decide)
  ·rw [show sIx (.mk 2 false n ⟨#[]⟩ [] []) = 2 by unfold sIx; simp [ND.kind, ND.num, q]]
   refine ⟨by decide, rfl, ⟨fun e => absurd e (by decide), fun e => absurd e q⟩, ?_, fun j hj => ?_, hw.1, hw.2⟩
   ·rw [sText_pos n (by omega) hw.2]; rfl
   ·obtain rfl | rfl : j = 0 ∨ j = 1 := by omega
    ·exact fun e => absurd e.1 (by decide)
    ·exact fun e => absurd e.1 (by decide)
 ·have hp : pPay (.mk 3 false 0 t [] []) = (t.size : Int) := rfl
  rw [hp, show sIx (.mk 3 false 0 t [] []) = 4 from rfl]
  refine ⟨by decide, rfl, ⟨fun e => absurd e (by decide), fun e => by omega⟩, ?_, fun j hj => ?_, by omega, by omega⟩
  ·rw [sText_txt t.size h1]; rfl
  ·obtain rfl | rfl | rfl | rfl : j = 0 ∨ j = 1 ∨ j = 2 ∨ j = 3 := by omega
   all_goals exact fun e => absurd e.1 (by decide)
 ·have hp : pPay (.mk 4 false 0 ⟨#[]⟩ [] its) = (its.length : Int) := rfl
  rw [hp, show sIx (.mk 4 false 0 ⟨#[]⟩ [] its) = 5 from rfl]
  refine ⟨by decide, rfl, ⟨fun e => absurd e (by decide), fun e => by omega⟩, ?_, fun j hj => ?_, by omega, by omega⟩
  ·rw [(sText_lst its.length hl).1]; rfl
  ·obtain rfl | rfl | rfl | rfl | rfl : j = 0 ∨ j = 1 ∨ j = 2 ∨ j = 3 ∨ j = 4 := by omega
   all_goals exact fun e => absurd e.1 (by decide)
 ·have hp : pPay (.mk 5 false 0 ⟨#[]⟩ ns its) = (its.length : Int) := rfl
  rw [hp, show sIx (.mk 5 false 0 ⟨#[]⟩ ns its) = 6 from rfl]
  refine ⟨by decide, rfl, ⟨fun e => absurd e (by decide), fun e => by omega⟩, ?_, fun j hj => ?_, by omega, by omega⟩
  ·rw [(sText_lst its.length hl).2]; rfl
  ·obtain rfl | rfl | rfl | rfl | rfl | rfl : j = 0 ∨ j = 1 ∨ j = 2 ∨ j = 3 ∨ j = 4 ∨ j = 5 := by omega
   all_goals exact fun e => absurd e.1 (by decide)
end Go.Proofs.YtmlmdidaldcoiaaGreatDoor
