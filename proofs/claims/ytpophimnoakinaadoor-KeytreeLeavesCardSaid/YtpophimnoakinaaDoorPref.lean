/- Contracts of the document's own functions of primitive: Code, Raw, lead, Size. -/
import Derived.Test.YtpophimnoakinaaDoorRows
import Derived.Test.YtpophimnoakinaaDoorMem
import Derived.Test.YtpophimnoakinaaDoorPrim
import Derived.WalkKit
import Derived.ProofKit
import Derived.OpenShut
import Derived.WalkSpells
import Derived.WalkLawsBesides
import Derived.Outline
import Derived.Lib.Hide
import Derived.Deep.QuietTactic
import Derived.BigQuiet
namespace Go.Proofs.YtpophimnoakinaaDoor
open Go.ChangeShapes Go.WideShapes Go.ChangeAt Go.RowKit
set_option linter.unusedVariables false
set_option linter.unusedSimpArgs false

/-- What Code returns. -/
def codeV (c : Int) : Value := if 1 ≤ c ∧ c ≤ 8 then .tuple #[.string ⟨(codeL c.toNat).toArray⟩, .bool true] else .tuple #[.string ⟨#[]⟩, .bool false]
def rawI (c : Int) : Int := rawN c.toNat
def leadI (c : Int) : Int := leadN c.toNat
def sizeI (c : Int) : Int := sizeN c.toNat
theorem rawN_out {n : Nat} (h : n = 0 ∨ 8 < n) : rawN n = 0 := by
  unfold rawN; split <;> first | omega | rfl
theorem sizeN_out {n : Nat} (h : n = 0 ∨ 8 < n) : sizeN n = 0 := by
  unfold sizeN; split <;> first | omega | rfl
theorem out_nat {c : Int} (h : c < 1 ∨ 8 < c) : c.toNat = 0 ∨ 8 < c.toNat := by omega
theorem eight_ints {c : Int} (h : 1 ≤ c ∧ c ≤ 8) : c = 1 ∨ c = 2 ∨ c = 3 ∨ c = 4 ∨ c = 5 ∨ c = 6 ∨ c = 7 ∨ c = 8 := by omega

set_option maxRecDepth 100000 in
theorem rcode_1 (w : World) : Calls Tryd.prog 78 #[.int .i64 1] w fun e w' => e = .returned (codeV 1) ∧ Below w.heap.size w w' := by
  rw [show codeV 1 = .tuple #[.string ⟨(codeL 1).toArray⟩, .bool true] from rfl]
  go_enter Tryd.func78, Tryd.ntmps78
  go_wp2
  go_ret2
  exact ⟨rfl, (Below.refl _ _).alloc (Nat.le_refl _) _⟩
set_option maxRecDepth 100000 in
theorem rcode_2 (w : World) : Calls Tryd.prog 78 #[.int .i64 2] w fun e w' => e = .returned (codeV 2) ∧ Below w.heap.size w w' := by
  rw [show codeV 2 = .tuple #[.string ⟨(codeL 2).toArray⟩, .bool true] from rfl]
  go_enter Tryd.func78, Tryd.ntmps78
  go_wp2
  go_ret2
  exact ⟨rfl, (Below.refl _ _).alloc (Nat.le_refl _) _⟩
set_option maxRecDepth 100000 in
theorem rcode_3 (w : World) : Calls Tryd.prog 78 #[.int .i64 3] w fun e w' => e = .returned (codeV 3) ∧ Below w.heap.size w w' := by
  rw [show codeV 3 = .tuple #[.string ⟨(codeL 3).toArray⟩, .bool true] from rfl]
  go_enter Tryd.func78, Tryd.ntmps78
  go_wp2
  go_ret2
  exact ⟨rfl, (Below.refl _ _).alloc (Nat.le_refl _) _⟩
set_option maxRecDepth 100000 in
theorem rcode_4 (w : World) : Calls Tryd.prog 78 #[.int .i64 4] w fun e w' => e = .returned (codeV 4) ∧ Below w.heap.size w w' := by
  rw [show codeV 4 = .tuple #[.string ⟨(codeL 4).toArray⟩, .bool true] from rfl]
  go_enter Tryd.func78, Tryd.ntmps78
  go_wp2
  go_ret2
  exact ⟨rfl, (Below.refl _ _).alloc (Nat.le_refl _) _⟩
set_option maxRecDepth 100000 in
theorem rcode_5 (w : World) : Calls Tryd.prog 78 #[.int .i64 5] w fun e w' => e = .returned (codeV 5) ∧ Below w.heap.size w w' := by
  rw [show codeV 5 = .tuple #[.string ⟨(codeL 5).toArray⟩, .bool true] from rfl]
  go_enter Tryd.func78, Tryd.ntmps78
  go_wp2
  go_ret2
  exact ⟨rfl, (Below.refl _ _).alloc (Nat.le_refl _) _⟩
set_option maxRecDepth 100000 in
theorem rcode_6 (w : World) : Calls Tryd.prog 78 #[.int .i64 6] w fun e w' => e = .returned (codeV 6) ∧ Below w.heap.size w w' := by
  rw [show codeV 6 = .tuple #[.string ⟨(codeL 6).toArray⟩, .bool true] from rfl]
  go_enter Tryd.func78, Tryd.ntmps78
  go_wp2
  go_ret2
  exact ⟨rfl, (Below.refl _ _).alloc (Nat.le_refl _) _⟩
set_option maxRecDepth 100000 in
theorem rcode_7 (w : World) : Calls Tryd.prog 78 #[.int .i64 7] w fun e w' => e = .returned (codeV 7) ∧ Below w.heap.size w w' := by
  rw [show codeV 7 = .tuple #[.string ⟨(codeL 7).toArray⟩, .bool true] from rfl]
  go_enter Tryd.func78, Tryd.ntmps78
  go_wp2
  go_ret2
  exact ⟨rfl, (Below.refl _ _).alloc (Nat.le_refl _) _⟩
set_option maxRecDepth 100000 in
theorem rcode_8 (w : World) : Calls Tryd.prog 78 #[.int .i64 8] w fun e w' => e = .returned (codeV 8) ∧ Below w.heap.size w w' := by
  rw [show codeV 8 = .tuple #[.string ⟨(codeL 8).toArray⟩, .bool true] from rfl]
  go_enter Tryd.func78, Tryd.ntmps78
  go_wp2
  go_ret2
  exact ⟨rfl, (Below.refl _ _).alloc (Nat.le_refl _) _⟩
set_option maxRecDepth 100000 in
theorem rcode_out (c : Int) (w : World) (h : c < 1 ∨ 8 < c) : Calls Tryd.prog 78 #[.int .i64 c] w fun e w' => e = .returned (codeV c) ∧ Below w.heap.size w w' := by
  rw [show codeV c = .tuple #[.string ⟨#[]⟩, .bool false] from if_neg (by omega)]
  rcases h with h | h
  · go_enter Tryd.func78, Tryd.ntmps78
    go_wp2
    go_ret2
    exact ⟨rfl, Below.refl _ _⟩
  · have h1 : decide (c < 1) = false := decide_eq_false (by omega)
    go_enter Tryd.func78, Tryd.ntmps78
    go_wp2
    go_ret2
    exact ⟨rfl, Below.refl _ _⟩
theorem rcode_any (c : Int) (w : World) : Calls Tryd.prog 78 #[.int .i64 c] w fun e w' => e = .returned (codeV c) ∧ Below w.heap.size w w' := by
  by_cases h : 1 ≤ c ∧ c ≤ 8
  · rcases eight_ints h with rfl | rfl | rfl | rfl | rfl | rfl | rfl | rfl
    · exact rcode_1 w
    · exact rcode_2 w
    · exact rcode_3 w
    · exact rcode_4 w
    · exact rcode_5 w
    · exact rcode_6 w
    · exact rcode_7 w
    · exact rcode_8 w
  · exact rcode_out c w (by omega)

set_option maxRecDepth 100000 in
theorem rraw_1 (w : World) : Calls Tryd.prog 79 #[.int .i64 1] w fun e w' => e = .returned (.int .i64 (rawI 1)) ∧ Below w.heap.size w w' := by
  rw [show rawI 1 = (rawN 1 : Int) from rfl]
  go_enter Tryd.func79, Tryd.ntmps79
  go_wp2
  go_ret
  exact ⟨rfl, (Below.refl _ _).alloc (Nat.le_refl _) _⟩
set_option maxRecDepth 100000 in
theorem rraw_2 (w : World) : Calls Tryd.prog 79 #[.int .i64 2] w fun e w' => e = .returned (.int .i64 (rawI 2)) ∧ Below w.heap.size w w' := by
  rw [show rawI 2 = (rawN 2 : Int) from rfl]
  go_enter Tryd.func79, Tryd.ntmps79
  go_wp2
  go_ret
  exact ⟨rfl, (Below.refl _ _).alloc (Nat.le_refl _) _⟩
set_option maxRecDepth 100000 in
theorem rraw_3 (w : World) : Calls Tryd.prog 79 #[.int .i64 3] w fun e w' => e = .returned (.int .i64 (rawI 3)) ∧ Below w.heap.size w w' := by
  rw [show rawI 3 = (rawN 3 : Int) from rfl]
  go_enter Tryd.func79, Tryd.ntmps79
  go_wp2
  go_ret
  exact ⟨rfl, (Below.refl _ _).alloc (Nat.le_refl _) _⟩
set_option maxRecDepth 100000 in
theorem rraw_4 (w : World) : Calls Tryd.prog 79 #[.int .i64 4] w fun e w' => e = .returned (.int .i64 (rawI 4)) ∧ Below w.heap.size w w' := by
  rw [show rawI 4 = (rawN 4 : Int) from rfl]
  go_enter Tryd.func79, Tryd.ntmps79
  go_wp2
  go_ret
  exact ⟨rfl, (Below.refl _ _).alloc (Nat.le_refl _) _⟩
set_option maxRecDepth 100000 in
theorem rraw_5 (w : World) : Calls Tryd.prog 79 #[.int .i64 5] w fun e w' => e = .returned (.int .i64 (rawI 5)) ∧ Below w.heap.size w w' := by
  rw [show rawI 5 = (rawN 5 : Int) from rfl]
  go_enter Tryd.func79, Tryd.ntmps79
  go_wp2
  go_ret
  exact ⟨rfl, (Below.refl _ _).alloc (Nat.le_refl _) _⟩
set_option maxRecDepth 100000 in
theorem rraw_6 (w : World) : Calls Tryd.prog 79 #[.int .i64 6] w fun e w' => e = .returned (.int .i64 (rawI 6)) ∧ Below w.heap.size w w' := by
  rw [show rawI 6 = (rawN 6 : Int) from rfl]
  go_enter Tryd.func79, Tryd.ntmps79
  go_wp2
  go_ret
  exact ⟨rfl, (Below.refl _ _).alloc (Nat.le_refl _) _⟩
set_option maxRecDepth 100000 in
theorem rraw_7 (w : World) : Calls Tryd.prog 79 #[.int .i64 7] w fun e w' => e = .returned (.int .i64 (rawI 7)) ∧ Below w.heap.size w w' := by
  rw [show rawI 7 = (rawN 7 : Int) from rfl]
  go_enter Tryd.func79, Tryd.ntmps79
  go_wp2
  go_ret
  exact ⟨rfl, (Below.refl _ _).alloc (Nat.le_refl _) _⟩
set_option maxRecDepth 100000 in
theorem rraw_8 (w : World) : Calls Tryd.prog 79 #[.int .i64 8] w fun e w' => e = .returned (.int .i64 (rawI 8)) ∧ Below w.heap.size w w' := by
  rw [show rawI 8 = (rawN 8 : Int) from rfl]
  go_enter Tryd.func79, Tryd.ntmps79
  go_wp2
  go_ret
  exact ⟨rfl, (Below.refl _ _).alloc (Nat.le_refl _) _⟩
set_option maxRecDepth 100000 in
theorem rraw_out (c : Int) (w : World) (h : c < 1 ∨ 8 < c) : Calls Tryd.prog 79 #[.int .i64 c] w fun e w' => e = .returned (.int .i64 (rawI c)) ∧ Below w.heap.size w w' := by
  rw [show rawI c = 0 by unfold rawI; rw [rawN_out (out_nat h)]; rfl]
  rcases h with h | h
  · go_enter Tryd.func79, Tryd.ntmps79
    go_wp2
    go_ret
    exact ⟨rfl, Below.refl _ _⟩
  · have h1 : decide (c < 1) = false := decide_eq_false (by omega)
    go_enter Tryd.func79, Tryd.ntmps79
    go_wp2
    go_ret
    exact ⟨rfl, Below.refl _ _⟩
theorem rraw_any (c : Int) (w : World) : Calls Tryd.prog 79 #[.int .i64 c] w fun e w' => e = .returned (.int .i64 (rawI c)) ∧ Below w.heap.size w w' := by
  by_cases h : 1 ≤ c ∧ c ≤ 8
  · rcases eight_ints h with rfl | rfl | rfl | rfl | rfl | rfl | rfl | rfl
    · exact rraw_1 w
    · exact rraw_2 w
    · exact rraw_3 w
    · exact rraw_4 w
    · exact rraw_5 w
    · exact rraw_6 w
    · exact rraw_7 w
    · exact rraw_8 w
  · exact rraw_out c w (by omega)

theorem raw_bound (c : Int) : 0 ≤ rawI c ∧ rawI c ≤ 626 := by
  have : rawN c.toNat ≤ 626 := by unfold rawN; split <;> omega
  unfold rawI; omega
theorem lead_raw_int (c : Int) : (3 - rawI c % 3) % 3 = leadI c := by
  unfold leadI leadN rawI; omega
set_option maxRecDepth 100000 in
theorem rlead_any (c : Int) (w : World) : Calls Tryd.prog 80 #[.int .i64 c] w fun e w' => e = .returned (.int .i64 (leadI c)) ∧ Below w.heap.size w w' := by
  have R := Lib.hid (fun (wx : World) => rraw_any c wx)
  obtain ⟨h0, h1⟩ := raw_bound c
  have hl := lead_raw_int c
  obtain ⟨r, hr⟩ : ∃ r, r = rawI c := ⟨_, rfl⟩
  rw [← hr] at R h0 h1 hl
  have HL := Lib.hid hl
  clear hr hl
  go_enter Tryd.func80, Tryd.ntmps80
  go_wp2_with (go_at_call 79; (with_reducible refine (R.out _).mono ?_); rintro e w1 ⟨rfl, hb1⟩)
  go_ret
  exact ⟨by rw [← HL.out]; rfl, hb1⟩
set_option maxRecDepth 100000 in
theorem rsize_in (n : Nat) (h1 : 1 ≤ n) (h8 : n ≤ 8) (w : World) : Calls Tryd.prog 85 #[.int .i64 (n : Int)] w fun e w' => e = .returned (.int .i64 (sizeN n)) ∧ Below w.heap.size w w' := by
  have C := Lib.hid (fun (wx : World) => rcode_any (n : Int) wx)
  rw [show codeV (n : Int) = .tuple #[.string ⟨(codeL n).toArray⟩, .bool true] from if_pos (by omega)] at C
  have R := Lib.hid (fun (wx : World) => rraw_any (n : Int) wx)
  have Ld := Lib.hid (fun (wx : World) => rlead_any (n : Int) wx)
  rw [show rawI (n : Int) = (rawN n : Int) from rfl] at R
  rw [show leadI (n : Int) = (leadN n : Int) from rfl] at Ld
  have hs := size_code n h1 h8
  have hl := lead_le n
  have hr : rawN n ≤ 626 := by unfold rawN; split <;> omega
  obtain ⟨cs, hcs⟩ : ∃ cs : ByteArray, cs = ⟨(codeL n).toArray⟩ := ⟨_, rfl⟩
  have hcl : (cs.size : Nat) = (codeL n).length := by rw [hcs]; show (codeL n).toArray.size = _; simp
  rw [← hcs] at C
  obtain ⟨k, hk⟩ : ∃ k, k = cs.size := ⟨_, rfl⟩
  obtain ⟨a, ha⟩ : ∃ a, a = leadN n := ⟨_, rfl⟩
  obtain ⟨b, hb⟩ : ∃ b, b = rawN n := ⟨_, rfl⟩
  obtain ⟨s, hs'⟩ : ∃ s, s = sizeN n := ⟨_, rfl⟩
  rw [← hcl, ← hk, ← ha, ← hb, ← hs'] at hs
  rw [← ha] at hl Ld
  rw [← hb] at hr R
  rw [← hs']
  have hk4 : k ≤ 4 := by
    have := lead_code n h1 h8
    rw [hk, hcl, this]; split <;> omega
  have hfin : (k : Int) + ((a : Int) + (b : Int)) / 3 * 4 - (a : Int) = (s : Int) := by omega
  have HF := Lib.hid hfin
  have hks : cs.size = k := hk.symm
  clear hcs hcl hk ha hb hs' hs hfin
  go_enter Tryd.func85, Tryd.ntmps85
  go_wp2_with (first
    | (go_at_call 78; (with_reducible refine (C.out _).mono ?_); rintro e w1 ⟨rfl, hb1⟩)
    | (go_at_call 80; (with_reducible refine (Ld.out w1).mono ?_); rintro e w2 ⟨rfl, hb2⟩)
    | (go_at_call 79; (with_reducible refine (R.out _).mono ?_); rintro e w3 ⟨rfl, hb3⟩)
    | (go_at_call 80; (with_reducible refine (Ld.out _).mono ?_); rintro e w4 ⟨rfl, hb4⟩))
  go_ret
  exact ⟨by rw [← HF.out]; rfl, hb1.trans ((hb2.mono hb1.size).trans ((hb3.mono (Nat.le_trans hb1.size hb2.size)).trans (hb4.mono (Nat.le_trans hb1.size (Nat.le_trans hb2.size hb3.size)))))⟩
set_option maxRecDepth 100000 in
theorem rsize_any (c : Int) (w : World) : Calls Tryd.prog 85 #[.int .i64 c] w fun e w' => e = .returned (.int .i64 (sizeI c)) ∧ Below w.heap.size w w' := by
  by_cases h : 1 ≤ c ∧ c ≤ 8
  · obtain ⟨n, rfl⟩ : ∃ n : Nat, c = (n : Int) := ⟨c.toNat, by omega⟩
    exact rsize_in n (by omega) (by omega) w
  · have C := Lib.hid (fun (wx : World) => rcode_any c wx)
    rw [show codeV c = .tuple #[.string ⟨#[]⟩, .bool false] from if_neg h] at C
    rw [show sizeI c = 0 by unfold sizeI; rw [sizeN_out (out_nat (by omega))]; rfl]
    go_enter Tryd.func85, Tryd.ntmps85
    go_wp2_with (go_at_call 78; (with_reducible refine (C.out _).mono ?_); rintro e w1 ⟨rfl, hb1⟩)
    go_ret
    exact ⟨rfl, hb1⟩

end Go.Proofs.YtpophimnoakinaaDoor
