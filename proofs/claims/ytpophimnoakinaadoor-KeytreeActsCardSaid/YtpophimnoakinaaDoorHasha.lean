/- Contracts of the small functions of package hash and of the document's own: rotations, words of bytes, bytes of words. -/
import Derived.Test.YtpophimnoakinaaDoorRows
import Derived.Test.YtpophimnoakinaaDoorArr
import Derived.Test.YtpophimnoakinaaDoorRefb
import Derived.Test.YtpophimnoakinaaDoorSha
import Derived.WalkKit
import Derived.ProofKit
import Derived.OpenShut
import Derived.WalkSpells
import Derived.WalkLawsBesides
import Derived.Outline
import Derived.Lib.Hide
import Derived.BigRegion
namespace Go.Proofs.YtpophimnoakinaaDoor
open Go.ChangeShapes Go.WideShapes Go.ChangeAt Go.RowKit
set_option linter.unusedVariables false
set_option linter.unusedSimpArgs false

theorem bor_comm (a b : Int) : bits .or .u32 a b = bits .or .u32 b a := by
  show IntKind.u32.wrap ((BitVec.ofInt 32 a ||| BitVec.ofInt 32 b).toNat : Int) = IntKind.u32.wrap ((BitVec.ofInt 32 b ||| BitVec.ofInt 32 a).toNat : Int)
  rw [BitVec.or_comm]

set_option maxRecDepth 100000 in
theorem rl2 (x : Int) (w : World) : Calls Tryd.prog 100 #[.int .u32 x, .int .i64 (-2)] w fun e w' => e = .returned (.int .u32 (roI 2 x)) ∧ w = w' := by
  have H : bits .and .u64 (IntKind.u64.wrap (-2)) 31 = 30 := by decide
  go_enter Tryd.func100, Tryd.ntmps100
  go_wp2
  go_ret
  exact ⟨(congrArg (fun u => Ending.returned (Value.int .u32 u)) (bor_comm _ _)), rfl⟩
set_option maxRecDepth 100000 in
theorem rot2 (x : Int) (w : World) : Calls Tryd.prog 97 #[.int .u32 x, .int .i64 2] w fun e w' => e = .returned (.int .u32 (roI 2 x)) ∧ w = w' := by
  go_enter Tryd.func97, Tryd.ntmps97
  go_wp2_with (go_at_call 100; (with_reducible refine (rl2 _ _).mono ?_); rintro e w' ⟨rfl, rfl⟩)
  go_ret
  exact ⟨rfl, rfl⟩
set_option maxRecDepth 100000 in
theorem right2 (x : Int) (w : World) : Calls Tryd.prog 67 #[.int .u32 x, .int .i64 2] w fun e w' => e = .returned (.int .u32 (roI 2 x)) ∧ w = w' := by
  go_enter Tryd.func67, Tryd.ntmps67
  go_wp2
  go_ret
  exact ⟨rfl, rfl⟩

set_option maxRecDepth 100000 in
theorem rl6 (x : Int) (w : World) : Calls Tryd.prog 100 #[.int .u32 x, .int .i64 (-6)] w fun e w' => e = .returned (.int .u32 (roI 6 x)) ∧ w = w' := by
  have H : bits .and .u64 (IntKind.u64.wrap (-6)) 31 = 26 := by decide
  go_enter Tryd.func100, Tryd.ntmps100
  go_wp2
  go_ret
  exact ⟨(congrArg (fun u => Ending.returned (Value.int .u32 u)) (bor_comm _ _)), rfl⟩
set_option maxRecDepth 100000 in
theorem rot6 (x : Int) (w : World) : Calls Tryd.prog 97 #[.int .u32 x, .int .i64 6] w fun e w' => e = .returned (.int .u32 (roI 6 x)) ∧ w = w' := by
  go_enter Tryd.func97, Tryd.ntmps97
  go_wp2_with (go_at_call 100; (with_reducible refine (rl6 _ _).mono ?_); rintro e w' ⟨rfl, rfl⟩)
  go_ret
  exact ⟨rfl, rfl⟩
set_option maxRecDepth 100000 in
theorem right6 (x : Int) (w : World) : Calls Tryd.prog 67 #[.int .u32 x, .int .i64 6] w fun e w' => e = .returned (.int .u32 (roI 6 x)) ∧ w = w' := by
  go_enter Tryd.func67, Tryd.ntmps67
  go_wp2
  go_ret
  exact ⟨rfl, rfl⟩

set_option maxRecDepth 100000 in
theorem rl7 (x : Int) (w : World) : Calls Tryd.prog 100 #[.int .u32 x, .int .i64 (-7)] w fun e w' => e = .returned (.int .u32 (roI 7 x)) ∧ w = w' := by
  have H : bits .and .u64 (IntKind.u64.wrap (-7)) 31 = 25 := by decide
  go_enter Tryd.func100, Tryd.ntmps100
  go_wp2
  go_ret
  exact ⟨(congrArg (fun u => Ending.returned (Value.int .u32 u)) (bor_comm _ _)), rfl⟩
set_option maxRecDepth 100000 in
theorem rot7 (x : Int) (w : World) : Calls Tryd.prog 97 #[.int .u32 x, .int .i64 7] w fun e w' => e = .returned (.int .u32 (roI 7 x)) ∧ w = w' := by
  go_enter Tryd.func97, Tryd.ntmps97
  go_wp2_with (go_at_call 100; (with_reducible refine (rl7 _ _).mono ?_); rintro e w' ⟨rfl, rfl⟩)
  go_ret
  exact ⟨rfl, rfl⟩
set_option maxRecDepth 100000 in
theorem right7 (x : Int) (w : World) : Calls Tryd.prog 67 #[.int .u32 x, .int .i64 7] w fun e w' => e = .returned (.int .u32 (roI 7 x)) ∧ w = w' := by
  go_enter Tryd.func67, Tryd.ntmps67
  go_wp2
  go_ret
  exact ⟨rfl, rfl⟩

set_option maxRecDepth 100000 in
theorem rl11 (x : Int) (w : World) : Calls Tryd.prog 100 #[.int .u32 x, .int .i64 (-11)] w fun e w' => e = .returned (.int .u32 (roI 11 x)) ∧ w = w' := by
  have H : bits .and .u64 (IntKind.u64.wrap (-11)) 31 = 21 := by decide
  go_enter Tryd.func100, Tryd.ntmps100
  go_wp2
  go_ret
  exact ⟨(congrArg (fun u => Ending.returned (Value.int .u32 u)) (bor_comm _ _)), rfl⟩
set_option maxRecDepth 100000 in
theorem rot11 (x : Int) (w : World) : Calls Tryd.prog 97 #[.int .u32 x, .int .i64 11] w fun e w' => e = .returned (.int .u32 (roI 11 x)) ∧ w = w' := by
  go_enter Tryd.func97, Tryd.ntmps97
  go_wp2_with (go_at_call 100; (with_reducible refine (rl11 _ _).mono ?_); rintro e w' ⟨rfl, rfl⟩)
  go_ret
  exact ⟨rfl, rfl⟩
set_option maxRecDepth 100000 in
theorem right11 (x : Int) (w : World) : Calls Tryd.prog 67 #[.int .u32 x, .int .i64 11] w fun e w' => e = .returned (.int .u32 (roI 11 x)) ∧ w = w' := by
  go_enter Tryd.func67, Tryd.ntmps67
  go_wp2
  go_ret
  exact ⟨rfl, rfl⟩

set_option maxRecDepth 100000 in
theorem rl13 (x : Int) (w : World) : Calls Tryd.prog 100 #[.int .u32 x, .int .i64 (-13)] w fun e w' => e = .returned (.int .u32 (roI 13 x)) ∧ w = w' := by
  have H : bits .and .u64 (IntKind.u64.wrap (-13)) 31 = 19 := by decide
  go_enter Tryd.func100, Tryd.ntmps100
  go_wp2
  go_ret
  exact ⟨(congrArg (fun u => Ending.returned (Value.int .u32 u)) (bor_comm _ _)), rfl⟩
set_option maxRecDepth 100000 in
theorem rot13 (x : Int) (w : World) : Calls Tryd.prog 97 #[.int .u32 x, .int .i64 13] w fun e w' => e = .returned (.int .u32 (roI 13 x)) ∧ w = w' := by
  go_enter Tryd.func97, Tryd.ntmps97
  go_wp2_with (go_at_call 100; (with_reducible refine (rl13 _ _).mono ?_); rintro e w' ⟨rfl, rfl⟩)
  go_ret
  exact ⟨rfl, rfl⟩
set_option maxRecDepth 100000 in
theorem right13 (x : Int) (w : World) : Calls Tryd.prog 67 #[.int .u32 x, .int .i64 13] w fun e w' => e = .returned (.int .u32 (roI 13 x)) ∧ w = w' := by
  go_enter Tryd.func67, Tryd.ntmps67
  go_wp2
  go_ret
  exact ⟨rfl, rfl⟩

set_option maxRecDepth 100000 in
theorem rl17 (x : Int) (w : World) : Calls Tryd.prog 100 #[.int .u32 x, .int .i64 (-17)] w fun e w' => e = .returned (.int .u32 (roI 17 x)) ∧ w = w' := by
  have H : bits .and .u64 (IntKind.u64.wrap (-17)) 31 = 15 := by decide
  go_enter Tryd.func100, Tryd.ntmps100
  go_wp2
  go_ret
  exact ⟨(congrArg (fun u => Ending.returned (Value.int .u32 u)) (bor_comm _ _)), rfl⟩
set_option maxRecDepth 100000 in
theorem rot17 (x : Int) (w : World) : Calls Tryd.prog 97 #[.int .u32 x, .int .i64 17] w fun e w' => e = .returned (.int .u32 (roI 17 x)) ∧ w = w' := by
  go_enter Tryd.func97, Tryd.ntmps97
  go_wp2_with (go_at_call 100; (with_reducible refine (rl17 _ _).mono ?_); rintro e w' ⟨rfl, rfl⟩)
  go_ret
  exact ⟨rfl, rfl⟩
set_option maxRecDepth 100000 in
theorem right17 (x : Int) (w : World) : Calls Tryd.prog 67 #[.int .u32 x, .int .i64 17] w fun e w' => e = .returned (.int .u32 (roI 17 x)) ∧ w = w' := by
  go_enter Tryd.func67, Tryd.ntmps67
  go_wp2
  go_ret
  exact ⟨rfl, rfl⟩

set_option maxRecDepth 100000 in
theorem rl18 (x : Int) (w : World) : Calls Tryd.prog 100 #[.int .u32 x, .int .i64 (-18)] w fun e w' => e = .returned (.int .u32 (roI 18 x)) ∧ w = w' := by
  have H : bits .and .u64 (IntKind.u64.wrap (-18)) 31 = 14 := by decide
  go_enter Tryd.func100, Tryd.ntmps100
  go_wp2
  go_ret
  exact ⟨(congrArg (fun u => Ending.returned (Value.int .u32 u)) (bor_comm _ _)), rfl⟩
set_option maxRecDepth 100000 in
theorem rot18 (x : Int) (w : World) : Calls Tryd.prog 97 #[.int .u32 x, .int .i64 18] w fun e w' => e = .returned (.int .u32 (roI 18 x)) ∧ w = w' := by
  go_enter Tryd.func97, Tryd.ntmps97
  go_wp2_with (go_at_call 100; (with_reducible refine (rl18 _ _).mono ?_); rintro e w' ⟨rfl, rfl⟩)
  go_ret
  exact ⟨rfl, rfl⟩
set_option maxRecDepth 100000 in
theorem right18 (x : Int) (w : World) : Calls Tryd.prog 67 #[.int .u32 x, .int .i64 18] w fun e w' => e = .returned (.int .u32 (roI 18 x)) ∧ w = w' := by
  go_enter Tryd.func67, Tryd.ntmps67
  go_wp2
  go_ret
  exact ⟨rfl, rfl⟩

set_option maxRecDepth 100000 in
theorem rl19 (x : Int) (w : World) : Calls Tryd.prog 100 #[.int .u32 x, .int .i64 (-19)] w fun e w' => e = .returned (.int .u32 (roI 19 x)) ∧ w = w' := by
  have H : bits .and .u64 (IntKind.u64.wrap (-19)) 31 = 13 := by decide
  go_enter Tryd.func100, Tryd.ntmps100
  go_wp2
  go_ret
  exact ⟨(congrArg (fun u => Ending.returned (Value.int .u32 u)) (bor_comm _ _)), rfl⟩
set_option maxRecDepth 100000 in
theorem rot19 (x : Int) (w : World) : Calls Tryd.prog 97 #[.int .u32 x, .int .i64 19] w fun e w' => e = .returned (.int .u32 (roI 19 x)) ∧ w = w' := by
  go_enter Tryd.func97, Tryd.ntmps97
  go_wp2_with (go_at_call 100; (with_reducible refine (rl19 _ _).mono ?_); rintro e w' ⟨rfl, rfl⟩)
  go_ret
  exact ⟨rfl, rfl⟩
set_option maxRecDepth 100000 in
theorem right19 (x : Int) (w : World) : Calls Tryd.prog 67 #[.int .u32 x, .int .i64 19] w fun e w' => e = .returned (.int .u32 (roI 19 x)) ∧ w = w' := by
  go_enter Tryd.func67, Tryd.ntmps67
  go_wp2
  go_ret
  exact ⟨rfl, rfl⟩

set_option maxRecDepth 100000 in
theorem rl22 (x : Int) (w : World) : Calls Tryd.prog 100 #[.int .u32 x, .int .i64 (-22)] w fun e w' => e = .returned (.int .u32 (roI 22 x)) ∧ w = w' := by
  have H : bits .and .u64 (IntKind.u64.wrap (-22)) 31 = 10 := by decide
  go_enter Tryd.func100, Tryd.ntmps100
  go_wp2
  go_ret
  exact ⟨(congrArg (fun u => Ending.returned (Value.int .u32 u)) (bor_comm _ _)), rfl⟩
set_option maxRecDepth 100000 in
theorem rot22 (x : Int) (w : World) : Calls Tryd.prog 97 #[.int .u32 x, .int .i64 22] w fun e w' => e = .returned (.int .u32 (roI 22 x)) ∧ w = w' := by
  go_enter Tryd.func97, Tryd.ntmps97
  go_wp2_with (go_at_call 100; (with_reducible refine (rl22 _ _).mono ?_); rintro e w' ⟨rfl, rfl⟩)
  go_ret
  exact ⟨rfl, rfl⟩
set_option maxRecDepth 100000 in
theorem right22 (x : Int) (w : World) : Calls Tryd.prog 67 #[.int .u32 x, .int .i64 22] w fun e w' => e = .returned (.int .u32 (roI 22 x)) ∧ w = w' := by
  go_enter Tryd.func67, Tryd.ntmps67
  go_wp2
  go_ret
  exact ⟨rfl, rfl⟩

set_option maxRecDepth 100000 in
theorem rl25 (x : Int) (w : World) : Calls Tryd.prog 100 #[.int .u32 x, .int .i64 (-25)] w fun e w' => e = .returned (.int .u32 (roI 25 x)) ∧ w = w' := by
  have H : bits .and .u64 (IntKind.u64.wrap (-25)) 31 = 7 := by decide
  go_enter Tryd.func100, Tryd.ntmps100
  go_wp2
  go_ret
  exact ⟨(congrArg (fun u => Ending.returned (Value.int .u32 u)) (bor_comm _ _)), rfl⟩
set_option maxRecDepth 100000 in
theorem rot25 (x : Int) (w : World) : Calls Tryd.prog 97 #[.int .u32 x, .int .i64 25] w fun e w' => e = .returned (.int .u32 (roI 25 x)) ∧ w = w' := by
  go_enter Tryd.func97, Tryd.ntmps97
  go_wp2_with (go_at_call 100; (with_reducible refine (rl25 _ _).mono ?_); rintro e w' ⟨rfl, rfl⟩)
  go_ret
  exact ⟨rfl, rfl⟩
set_option maxRecDepth 100000 in
theorem right25 (x : Int) (w : World) : Calls Tryd.prog 67 #[.int .u32 x, .int .i64 25] w fun e w' => e = .returned (.int .u32 (roI 25 x)) ∧ w = w' := by
  go_enter Tryd.func67, Tryd.ntmps67
  go_wp2
  go_ret
  exact ⟨rfl, rfl⟩


set_option maxRecDepth 100000 in
theorem hword_any (q : ByteArray) (w : World) (hq : 4 ≤ q.size) : Calls Tryd.prog 66 #[.string q] w fun e w' => e = .returned (.int .u32 (wordAt q.data.toList 0)) ∧ ∃ n, w' = w.drewN n := by
  have e0 : ((q.data.toList.getD 0 0).toNat : Int) = (q[0].toNat : Int) := by rw [get_of q 0 (by omega)]
  have e1 : ((q.data.toList.getD 1 0).toNat : Int) = (q[1].toNat : Int) := by rw [get_of q 1 (by omega)]
  have e2 : ((q.data.toList.getD 2 0).toNat : Int) = (q[2].toNat : Int) := by rw [get_of q 2 (by omega)]
  have e3 : ((q.data.toList.getD 3 0).toNat : Int) = (q[3].toNat : Int) := by rw [get_of q 3 (by omega)]
  have E : wordAt q.data.toList 0 = wordI q[0].toNat q[1].toNat q[2].toNat q[3].toNat := by
    unfold wordAt; rw [e0, e1, e2, e3]
  have H := Lib.hid E
  clear e0 e1 e2 e3 E
  have s0 : 0 < q.size := by omega
  have s1 : 1 < q.size := by omega
  have s2 : 2 < q.size := by omega
  have s3 : 3 < q.size := by omega
  have t1 : (1 : Int) < q.size := by omega
  have t2 : (2 : Int) < q.size := by omega
  have t3 : (3 : Int) < q.size := by omega
  have b0 := UInt8.toNat_lt q[0]
  have b1 := UInt8.toNat_lt q[1]
  have b2 := UInt8.toNat_lt q[2]
  have b3 := UInt8.toNat_lt q[3]
  go_enter Tryd.func66, Tryd.ntmps66
  go_wp2
  go_region
  go_wp2
  go_ret
  refine ⟨?_, 1, rfl⟩
  rw [H.out]
  unfold wordI
  congr 3

/-- The world behind four stores of the bytes of x from cell o on. -/
def put4 (w : World) (g o : Nat) (x : Int) : World :=
  (((w.setCell ⟨g, o, none⟩ (.int .u8 (byteI (x / 16777216)).toNat)).setCell ⟨g, o + 1, none⟩ (.int .u8 (byteI (x / 65536)).toNat)).setCell ⟨g, o + 2, none⟩ (.int .u8 (byteI (x / 256)).toNat)).setCell ⟨g, o + 3, none⟩ (.int .u8 (byteI x).toNat)
set_option maxRecDepth 100000 in
theorem putWord_any (g o len cap : Nat) (x : Int) (T : TypeId) (xs : List Value) (w : World) (ha : Arr w g T xs) (ho : o + 4 ≤ xs.length) (hl : 4 ≤ len) (hc : cap ≤ maxLen) (hlc : len ≤ cap) :
    Calls Tryd.prog 72 #[.slice (some ⟨g, o, none⟩) len cap, .int .u32 x] w fun e w' => e = .returned (.tuple #[]) ∧ w' = put4 w g o x := by
  unfold maxLen at hc
  have c : ∀ k, k < 4 → w.cell? ⟨g, o + k, none⟩ = some (xs.getD (o + k) (.bool true)) := by
    intro k hk
    refine ha.cellAt ?_
    simp only [List.getD]
    rw [List.getElem?_eq_getElem (by omega)]
    rfl
  have c0 := c 0 (by omega)
  have c1 := c 1 (by omega)
  have c2 := c 2 (by omega)
  have c3 := c 3 (by omega)
  have f0 := ha.free o
  have f1 := ha.free (o + 1)
  have f2 := ha.free (o + 2)
  have f3 := ha.free (o + 3)
  simp only [Nat.add_zero] at c0
  obtain ⟨u0, h0⟩ : ∃ u, u = xs.getD o (.bool true) := ⟨_, rfl⟩
  obtain ⟨u1, h1⟩ : ∃ u, u = xs.getD (o + 1) (.bool true) := ⟨_, rfl⟩
  obtain ⟨u2, h2⟩ : ∃ u, u = xs.getD (o + 2) (.bool true) := ⟨_, rfl⟩
  obtain ⟨u3, h3⟩ : ∃ u, u = xs.getD (o + 3) (.bool true) := ⟨_, rfl⟩
  rw [← h0] at c0; rw [← h1] at c1; rw [← h2] at c2; rw [← h3] at c3
  clear h0 h1 h2 h3 c ha ho
  have E : put4 w g o x = (((w.setCell ⟨g, o, none⟩ (.int .u8 (x / 16777216 % 256))).setCell ⟨g, o + 1, none⟩ (.int .u8 (x / 65536 % 256))).setCell ⟨g, o + 2, none⟩ (.int .u8 (x / 256 % 256))).setCell ⟨g, o + 3, none⟩ (.int .u8 (x % 256)) := by
    unfold put4
    simp only [byteI_val]
  have H := Lib.hid E
  clear E
  go_enter Tryd.func72, Tryd.ntmps72
  go_wp2
  go_end0
  exact ⟨rfl, H.out.symm⟩
theorem put4_below {B g o : Nat} {x : Int} {W w : World} (h : Below B W w) (hg : B ≤ g) : Below B W (put4 w g o x) :=
  (((h.setCell (p := ⟨g, o, none⟩) hg _).setCell (p := ⟨g, o + 1, none⟩) hg _).setCell (p := ⟨g, o + 2, none⟩) hg _).setCell (p := ⟨g, o + 3, none⟩) hg _
theorem put4_beside {w : World} {g' g o : Nat} {T : TypeId} {xs : List Value} {x : Int} (h : Arr w g' T xs) (hne : g' ≠ g) : Arr (put4 w g o x) g' T xs :=
  (((h.beside _ _ hne).beside _ _ hne).beside _ _ hne).beside _ _ hne
theorem put4_arr {w : World} {g o : Nat} {T : TypeId} {a b : List Value} {v0 v1 v2 v3 : Value} {x : Int} (h : Arr w g T (a ++ ([v0, v1, v2, v3] ++ b))) (ho : a.length = o) :
    Arr (put4 w g o x) g T (a ++ (bytesV [byteI (x / 16777216), byteI (x / 65536), byteI (x / 256), byteI x] ++ b)) := by
  have h1 := (((h.store o (.int .u8 (byteI (x / 16777216)).toNat)).store (o + 1) (.int .u8 (byteI (x / 65536)).toNat)).store (o + 2) (.int .u8 (byteI (x / 256)).toNat)).store (o + 3) (.int .u8 (byteI x).toNat)
  subst ho
  have e : ((((a ++ ([v0, v1, v2, v3] ++ b)).set a.length (.int .u8 (byteI (x / 16777216)).toNat)).set (a.length + 1) (.int .u8 (byteI (x / 65536)).toNat)).set (a.length + 2) (.int .u8 (byteI (x / 256)).toNat)).set (a.length + 3) (.int .u8 (byteI x).toNat) = a ++ (bytesV [byteI (x / 16777216), byteI (x / 65536), byteI (x / 256), byteI x] ++ b) := by
    simp [List.set_append, bytesV]
  rw [e] at h1
  exact h1

end Go.Proofs.YtpophimnoakinaaDoor
