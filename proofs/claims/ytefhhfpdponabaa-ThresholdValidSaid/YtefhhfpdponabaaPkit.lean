/- The dice of the statements' inputs (Light, Roll, Next, Bytes, Primitive): what comes out of them is some number below the bound, some string of the length, some primitive; only their own block is written. And the sanity check of the statements of primitive. -/
import Derived.Test.YtefhhfpdponabaaQenc
import Derived.Test.YtefhhfpdponabaaAwake
import Derived.Test.YtefhhfpdponabaaSpoil
import Derived.Deep.DeepCutAuto
namespace Go.Proofs.Ytefhhfpdponabaa
open Go.ChangeShapes Go.WideShapes Go.ChangeAt Go.RowKit
set_option linter.unusedVariables false
set_option linter.unusedSimpArgs false

/-- A slice of numbers below block B. -/
def NumsB (B : Nat) (w : World) (a : Option Addr) (len cap : Nat) (zs : List Int) : Prop :=
  len ≤ cap ∧ cap ≤ maxLen ∧ (∀ i, i < cap → ∃ b off, a = some ⟨b, off, none⟩ ∧ b < B ∧ w.cell? ⟨b, off + i, none⟩ = some (.int .i64 (zs.getD i 0))) ∧ ∀ i, -9223372036854775808 ≤ zs.getD i 0 ∧ zs.getD i 0 ≤ 9223372036854775807
theorem NumsB.of_row {w : World} {a : Option Addr} {len cap : Nat} {zs : List Int} (h : IsRow .i64 w a len cap zs) : NumsB w.heap.size w a len cap zs := by
  obtain ⟨h1, h2, h3, h4, h5⟩ := h
  refine ⟨h1, h2, h4, fun i => ?_⟩
  rcases Nat.lt_or_ge i zs.length with h | h
  · have hm : zs.getD i 0 ∈ zs := by rw [List.getD, List.getElem?_eq_getElem h]; exact List.getElem_mem h
    exact bounds_i64 (h5 _ hm)
  · rw [List.getD, List.getElem?_eq_none h]; decide
theorem NumsB.same {B : Nat} {w w' : World} {a : Option Addr} {len cap : Nat} {zs : List Int} (h : NumsB B w a len cap zs) (hb : ∀ j, j < B → w'.heap[j]? = w.heap[j]?) : NumsB B w' a len cap zs := by
  obtain ⟨h1, h2, h3, h4⟩ := h
  refine ⟨h1, h2, fun i hi => ?_, h4⟩
  obtain ⟨b, off, e, hbB, hc⟩ := h3 i hi
  refine ⟨b, off, e, hbB, ?_⟩
  rw [← hc]
  simp only [World.cell?, hb b hbB]

/-- Block g, from B on, holds dice over numbers below B. -/
def DiceAt (B : Nat) (w : World) (g : Nat) : Prop :=
  ∃ a len cap k zs, B ≤ g ∧ w.heap[g]? = some (.cells #[.slice a len cap, .int .i64 ((k : Nat) : Int)] 50 (0, 0)) ∧ k ≤ len ∧ NumsB B w a len cap zs
theorem DiceAt.lt {B g : Nat} {w : World} (h : DiceAt B w g) : g < w.heap.size := by
  obtain ⟨_, _, _, _, _, _, h, _⟩ := h
  exact lt_of_block h
theorem DiceAt.same {B g : Nat} {w w' : World} (h : DiceAt B w g) (hb : ∀ j, j ≤ g → w'.heap[j]? = w.heap[j]?) : DiceAt B w' g := by
  obtain ⟨a, len, cap, k, zs, hB, hh, hk, hn⟩ := h
  exact ⟨a, len, cap, k, zs, hB, (hb g (Nat.le_refl _)).trans hh, hk, hn.same fun j hj => hb j (by omega)⟩
theorem DiceAt.below {B g C : Nat} {w w' : World} (h : DiceAt B w g) (hg : g < C) (hb : Below C w w') : DiceAt B w' g := h.same fun j hj => hb.block j (by omega)
theorem DiceAt.go {B g : Nat} {w w' : World} (h : DiceAt B w g) (hb : Below w.heap.size w w') : DiceAt B w' g := h.below h.lt hb
theorem grown_of_below {w w' : World} {C : Nat} (hb : Below C w w') (hC : w.heap.size ≤ C) (row : Option Nat) : w.grownBy w' row :=
  ⟨hb.os, hb.tape, hb.output, hb.size, fun i hi _ => hb.block i (by omega)⟩
theorem keepG {w w' : World} {g h : Nat} {o : Obj} (hg : w.grownBy w' (some g)) (hne : h ≠ g) (hh : w.heap[h]? = some o) : w'.heap[h]? = some o :=
  (hg.block h (lt_of_block hh) (by intro e; cases e; exact hne rfl)).trans hh

set_option maxRecDepth 100000 in
theorem light_any (a : Option Addr) (len cap : Nat) (w : World) : Calls Try.prog 8 #[.slice a len cap] w fun e w' => e = .returned (.bool (decide ((len : Int) ≤ 500))) ∧ w = w' := by
  go_enter Try.func8, Try.ntmps8
  go_wp2
  go_ret
  exact ⟨rfl, rfl⟩
set_option maxRecDepth 100000 in
theorem roll_any (a : Option Addr) (len cap : Nat) (zs : List Int) (w : World) (h : NumsB w.heap.size w a len cap zs) : Calls Try.prog 10 #[.slice a len cap] w fun e w' => e = .returned (.pointer (some ⟨w.heap.size, 0, none⟩)) ∧ Below w.heap.size w w' ∧ DiceAt w.heap.size w' w.heap.size := by
  have HN := Lib.hid h
  clear h
  go_enter Try.func10, Try.ntmps10
  go_wp2
  go_ret
  refine ⟨rfl, (Below.refl _ _).alloc (Nat.le_refl _) _, a, len, cap, 0, zs, Nat.le_refl _, heap_alloc_new _ _, Nat.zero_le _, HN.out.same fun j hj => ?_⟩
  exact Below.heap_alloc _ _ j hj
theorem grown_set1 (w : World) (g : Nat) (v : Value) : w.grownBy (w.setCell ⟨g, 1, none⟩ v) (some g) :=
  ⟨rfl, rfl, rfl, by simp [World.setCell], fun i _ hne => heap_setCell_other w ⟨g, 1, none⟩ i v (fun e => hne (by rw [e]))⟩
theorem grown_drewN {a w : World} {row : Option Nat} (h : a.grownBy w row) (n : Nat) : a.grownBy (w.drewN n) row := ⟨h.os, h.tape, h.output, h.size, h.block⟩
set_option maxHeartbeats 800000 in
set_option maxRecDepth 100000 in
theorem next_any (B g : Nat) (n : Nat) (w : World) (h1 : 1 ≤ n) (hn : n < 2 ^ 62) (hd : DiceAt B w g) : Calls Try.prog 11 #[.pointer (some ⟨g, 0, none⟩), .int .i64 (n : Int)] w fun e w' => (∃ k : Nat, k < n ∧ e = .returned (.int .i64 (k : Int))) ∧ w.grownBy w' (some g) ∧ DiceAt B w' g := by
  obtain ⟨a, len, cap, k, zs, hB, hh, hk, hN⟩ := hd
  have hc := two_of hh
  have hf := free_two hh
  have hN' := hN
  obtain ⟨hlc, hcm, hcell, hbd⟩ := hN
  unfold maxLen at hcm
  by_cases hlt : k < len
  · obtain ⟨b, off, rfl, hbB, hcx⟩ := hcell k (by omega)
    obtain ⟨z, hz⟩ : ∃ z, z = zs.getD k 0 := ⟨_, rfl⟩
    have hzb := hbd k
    rw [← hz] at hcx hzb
    have M := Lib.hid (fun (wx : World) => mod_any z n wx h1 hn hzb.1 hzb.2)
    obtain ⟨m, hm⟩ : ∃ m : Nat, z % (n : Int) = (m : Int) := ⟨(z % (n : Int)).toNat, by have := Int.emod_nonneg z (b := (n : Int)) (by omega); omega⟩
    have hmn : m < n := by have := Int.emod_lt_of_pos z (b := (n : Int)) (by omega); omega
    rw [hm] at M
    have HN := Lib.hid hN'
    have HH := Lib.hid hh
    have hne : b ≠ g := by omega
    clear hN' hcell hbd hz hm hh
    go_enter Try.func11, Try.ntmps11
    have hkl : (k : Int) < (len : Int) := by omega
    have hkl2 : k < len := hlt
    go_wp2
    go_quiet (fail)
    go_wp2
    have hB1 := two_set1 (w := w.drewN nq) HH.out (.int .i64 ((k : Int) + 1))
    have hs1 := two_of hB1
    have hcx1 : ((w.drewN nq).setCell ⟨g, 1, none⟩ (.int .i64 ((k : Int) + 1))).cell? ⟨b, off + k, none⟩ = some (.int .i64 z) := by
      rw [← hcx]
      simp only [World.cell?, heap_setCell_other (w.drewN nq) ⟨g, 1, none⟩ b _ hne]
      rfl
    have ek : (k : Int) + 1 - 1 = (k : Int) := by omega
    have e1 : IntKind.i64.wrap ((k : Int) + 1 - 1) = (k : Int) := by rw [ek]; exact w64 _ (by omega)
    have gg := gtrans (grown_drewN (World.grownBy.refl w (some g)) nq) (grown_set1 (w.drewN nq) g (.int .i64 ((k : Int) + 1)))
    have hk0 : (0 : Int) ≤ (k : Int) := by omega
    have hd0 := hs1.1
    have hd1 := hs1.2
    have HB1 := Lib.hid hB1
    have HD := Lib.hid (HN.out.same (w' := (w.drewN nq).setCell ⟨g, 1, none⟩ (.int .i64 ((k : Int) + 1))) fun j hj => heap_setCell_other (w.drewN nq) ⟨g, 1, none⟩ j _ (show j ≠ g by omega))
    clear hc hcx hs1 hB1
    go_quiet (first | (go_at_call 14; (with_reducible refine (M.out _).mono ?_); exact fun e u h => ⟨h.1, _, h.2.symm⟩))
    go_wp2
    go_ret
    refine ⟨⟨m, hmn, rfl⟩, grown_drewN gg _, _, len, cap, k + 1, zs, hB, HB1.out, by omega, HD.out⟩
  · have HN := Lib.hid hN'
    have HH := Lib.hid hh
    have hge : (len : Int) ≤ (k : Int) := by omega
    have hge2 : len ≤ k := by omega
    clear hN' hcell hbd hh
    go_enter Try.func11, Try.ntmps11
    go_wp2
    go_quiet (fail)
    go_wp2
    go_ret
    refine ⟨⟨0, by omega, rfl⟩, grown_drewN (World.grownBy.refl w _) _, a, len, cap, k, zs, hB, HH.out, by omega, HN.out⟩

/-- What is owned from block C on is left alone where an elder block is written. -/
theorem owns_grown {w w' : World} {C e size n g : Nat} {v : Value} {xs : List Value} (h : w.ownsRow C e size v n xs) (hg : w.grownBy w' (some g)) (hlt : g < C) : w'.ownsRow C e size v n xs := by
  obtain ⟨h1, h2 | ⟨g', cap, cur, hv, hC, hh, r⟩⟩ := h
  · exact ⟨h1, .inl h2⟩
  · exact ⟨h1, .inr ⟨g', cap, cur, hv, hC, keepG hg (by omega) hh, r⟩⟩
/-- A write into what is owned from block C on leaves the blocks below alone. -/
theorem own_kept {a b : World} {C e size n : Nat} {v : Value} {xs : List Value} (h : a.ownsRow C e size v n xs) (k : a.grownBy b v.ownBlock) (j : Nat) (hj : j < C) (hs : j < a.heap.size) : b.heap[j]? = a.heap[j]? := by
  refine k.block j hs fun e => ?_
  obtain ⟨_, ⟨rfl, _⟩ | ⟨g', cap, cur, rfl, hC, _⟩⟩ := h
  · simp [Value.ownBlock] at e
  · simp [Value.ownBlock] at e; omega
theorem grown_own {W a b : World} {C e size n : Nat} {v : Value} {xs : List Value} {row : Option Nat} (h : W.grownBy a row) (hown : a.ownsRow C e size v n xs) (k : a.grownBy b v.ownBlock) (hC : W.heap.size ≤ C) : W.grownBy b row :=
  ⟨k.os.trans h.os, k.tape.trans h.tape, k.output.trans h.output, Nat.le_trans h.size k.size, fun j hj hne => (own_kept hown k j (by omega) (Nat.lt_of_lt_of_le hj h.size)).trans (h.block j hj hne)⟩


theorem next_lit (B g : Nat) (n : Nat) (z : Int) (hz : (n : Int) = z) (w : World) (h1 : 1 ≤ n) (hn : n < 2 ^ 62) (hd : DiceAt B w g) : Calls Try.prog 11 #[.pointer (some ⟨g, 0, none⟩), .int .i64 z] w fun e w' => (∃ k : Nat, k < n ∧ e = .returned (.int .i64 (k : Int))) ∧ w.grownBy w' (some g) ∧ DiceAt B w' g := hz ▸ next_any B g n w h1 hn hd
def strSize : Value → Nat
  | .string s => s.size
  | _ => 0
theorem grown_setNew {a b : World} {row : Option Nat} (h : a.grownBy b row) {k : Nat} (hk : a.heap.size ≤ k) (o : Nat) (v : Value) : a.grownBy (b.setCell ⟨k, o, none⟩ v) row :=
  ⟨h.os, h.tape, h.output, by simpa [World.setCell] using h.size, fun i hi hne => (heap_setCell_other b ⟨k, o, none⟩ i v (show i ≠ k by omega)).trans (h.block i hi hne)⟩
theorem DiceAt.setNew {B g : Nat} {w : World} (h : DiceAt B w g) {k : Nat} (hk : g < k) (o : Nat) (v : Value) : DiceAt B (w.setCell ⟨k, o, none⟩ v) g :=
  h.same fun j hj => heap_setCell_other w ⟨k, o, none⟩ j v (show j ≠ k by omega)

end Go.Proofs.Ytefhhfpdponabaa
