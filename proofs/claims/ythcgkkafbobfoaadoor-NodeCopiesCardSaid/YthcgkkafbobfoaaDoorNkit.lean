/- The kit's dice for nodes: one of some strings (Word), a text (Text). -/
import Derived.Test.YthcgkkafbobfoaaDoorNdata
namespace Go.Proofs.YthcgkkafbobfoaaDoor
open Go.ChangeShapes Go.WideShapes Go.ChangeAt Go.RowKit
set_option linter.unusedVariables false
set_option linter.unusedSimpArgs false

set_option maxHeartbeats 800000 in
set_option maxRecDepth 100000 in
/-- Some string of a slice that is not empty. -/
theorem word_any (B g b cap : Nat) (n : Nat) (ns : List ByteArray) (w : World) (h1 : 1 ≤ n) (hn : n < 2 ^ 62) (hl : ns.length = n) (hc : ∀ j s, ns[j]? = some s → w.cell? ⟨b, j, none⟩ = some (.string s)) (hb : b ≠ g) (hd : DiceAt B w g) :
    Calls Tryd.prog 14 #[.pointer (some ⟨g, 0, none⟩), .slice (some ⟨b, 0, none⟩) n cap] w fun e w' => (∃ s, s ∈ ns ∧ e = .returned (.string s)) ∧ w.grownBy w' (some g) ∧ DiceAt B w' g := by
  have N := Lib.hid (fun (wx : World) (hx : DiceAt B wx g) => next_any B g n wx h1 hn hx)
  go_enter Tryd.func14, Tryd.ntmps14
  have CC := Lib.hid hc
  clear hc
  go_wp2_with (go_at_call 28; (with_reducible refine (N.out _ hd).mono ?_); rintro e w1 ⟨⟨k, hk, rfl⟩, hg1, hd1⟩; go_loud ((have hk1 : k < ns.length := by omega); (have hk2 : (k : Int) < (n : Int) := by omega); (have hk3 : (0 : Int) ≤ (k : Int) := by omega); (have hm : ns[k] ∈ ns := List.getElem_mem hk1); (have hcell : w1.cell? ⟨b, k, none⟩ = some (.string ns[k]) := hg1.cell (CC.out k _ (List.getElem?_eq_getElem hk1)) (by intro e; have := Option.some.inj e; dsimp only at this; omega)); generalize ns[k] = s at hcell hm))
  go_ret
  exact ⟨⟨s, hm, rfl⟩, hg1, hd1⟩

/-- The cells of a literal slice. -/
theorem cells_lit {w : World} {b : Nat} {T : TypeId} {cs : Array Value} (vs : List Value) (h : w.heap[b]? = some (.cells cs T (0, 0))) (e : cs = vs.toArray) : ∀ j v, vs[j]? = some v → w.cell? ⟨b, j, none⟩ = some v := by
  intro j v hj
  subst e
  simp [World.cell?, h, hj]
theorem cells_lits {w : World} {b : Nat} {T : TypeId} {cs : Array Value} (ns : List ByteArray) (h : w.heap[b]? = some (.cells cs T (0, 0))) (e : cs = (ns.map Value.string).toArray) : ∀ j s, ns[j]? = some s → w.cell? ⟨b, j, none⟩ = some (.string s) :=
  fun j s hj => cells_lit _ h e j _ (by rw [List.getElem?_map, hj]; rfl)
/-- Some text that may stand in a node. -/
def SomeText (e : Ending) : Prop := ∃ s : ByteArray, textOk s = true ∧ s.size ≤ 300 ∧ e = .returned (.string s)
def kTexts : List ByteArray := [⟨#[]⟩, ⟨#[97]⟩, ⟨#[66, 111, 110, 110]⟩, ⟨#[97, 32, 34, 113, 117, 111, 116, 101, 100, 34, 32, 92, 32, 116, 101, 120, 116]⟩, ⟨#[108, 105, 110, 101, 10, 97, 110, 100, 9, 116, 97, 98, 1, 31, 127]⟩, ⟨#[195, 164, 226, 130, 172, 240, 159, 152, 128]⟩, ⟨#[75, 69, 82, 73, 49, 48, 74, 83, 79, 78, 48, 48, 48, 48, 50, 97, 95]⟩]
theorem kTexts_ok : ∀ s, s ∈ kTexts → s.size ≤ 20 ∧ Lib.validD s.data.toList = true := by decide +kernel
def kLens : List Int := [23, 24, 31, 32, 255, 256]
theorem kLens_ok : ∀ j, j < 6 → ∃ z : Int, kLens[j]? = some z ∧ z ≤ 256 := by
  intro j hj
  obtain rfl | rfl | rfl | rfl | rfl | rfl : j = 0 ∨ j = 1 ∨ j = 2 ∨ j = 3 ∨ j = 4 ∨ j = 5 := by omega
  all_goals exact ⟨_, rfl, by decide⟩
set_option maxHeartbeats 1600000 in
set_option maxRecDepth 100000 in
theorem ktext_any (B g : Nat) (w : World) (hd : DiceAt B w g) :
    Calls Tryd.prog 29 #[.pointer (some ⟨g, 0, none⟩)] w fun e w' => SomeText e ∧ w.grownBy w' (some g) ∧ DiceAt B w' g := by
  have N10 := Lib.hid (fun (wx : World) (hx : DiceAt B wx g) => next_lit B g 10 10 rfl wx (by decide) (by decide) hx)
  have N6 := Lib.hid (fun (wx : World) (hx : DiceAt B wx g) => next_lit B g 6 6 rfl wx (by decide) (by decide) hx)
  have hgw := hd.lt
  obtain ⟨b0, hb0⟩ : ∃ b0, b0 = Obj.cells (kTexts.map Value.string).toArray 9 (0, 0) := ⟨_, rfl⟩
  have WD := Lib.hid (word_any B g w.heap.size 7 7 kTexts (w.alloc (.cells (kTexts.map Value.string).toArray 9)) (by decide) (by decide) rfl (cells_lits kTexts (heap_alloc_new _ _) rfl) (by omega) (hd.go ((Below.refl w.heap.size w).alloc (Nat.le_refl _) _)))
  have q0 := galloc w (.cells (kTexts.map Value.string).toArray 9) (some g)
  clear hd hb0
  go_enter Tryd.func29, Tryd.ntmps29
  go_upto_if 7 with (first
    | (go_at_call 14; refine (WD.out).mono ?_; rintro e w1 ⟨⟨s0, hs0, rfl⟩, hg1, hd1⟩)
    | (go_at_call 28; (with_reducible refine (N10.out _ hd1).mono ?_); rintro e w2 ⟨⟨k, hk, rfl⟩, hg2, hd2⟩))
  all_goals have hs := kTexts_ok s0 hs0
  all_goals have q2 := gtrans (gtrans q0 hg1) hg2
  rotate_left
  · go_ret
    exact ⟨⟨s0, by unfold textOk; rw [hs.2, decide_eq_true (show s0.size ≤ 65536 by omega)]; rfl, by omega, rfl⟩, q2, hd2⟩
  · have HQ := Lib.hid q2
    have HD := Lib.hid hd2
    clear q2 hd2 hg1 hg2 hd1 q0 WD N10
    generalize Value.bool ((k : Int) == 1) = vb
    go_loopw [3] (fun v wr => ∃ s : ByteArray, Lib.validD s.data.toList = true ∧ s.size ≤ 256 ∧ v = .string s ∧ w.grownBy wr (some g) ∧ DiceAt B wr g) (fun v _ => 300 - strSize v)
    case atStart => exact ⟨s0, hs.2, by omega, rfl, HQ.out, HD.out⟩
    case round =>
      clear HQ HD hs hs0
      obtain ⟨s, hv, hz, rfl, hq, hdi⟩ := hrel
      have hcat : ¬ 9223372036854775807 < s.size + 1 := by omega
      have hb0 : (wr.alloc (.cells #[.int .i64 23, .int .i64 24, .int .i64 31, .int .i64 32, .int .i64 255, .int .i64 256] 3)).heap[wr.heap.size]? = some (.cells #[.int .i64 23, .int .i64 24, .int .i64 31, .int .i64 32, .int .i64 255, .int .i64 256] 3 (0, 0)) := heap_alloc_new _ _
      have hgr := hdi.lt
      have hdA := hdi.go ((Below.refl wr.heap.size wr).alloc (o := .cells #[.int .i64 23, .int .i64 24, .int .i64 31, .int .i64 32, .int .i64 255, .int .i64 256] 3) (Nat.le_refl _))
      have hqA := gtrans hq (galloc wr (.cells #[.int .i64 23, .int .i64 24, .int .i64 31, .int .i64 32, .int .i64 255, .int .i64 256] 3) (some g))
      go_upto_if 17 with (go_at_call 28; (with_reducible refine (N6.out _ hdA).mono ?_); rintro e w3 ⟨⟨k3, hk3, rfl⟩, hg3, hd3⟩; go_loud ((have hb3 := keepG hg3 (by omega) hb0); (obtain ⟨z, hz1, hz2⟩ := kLens_ok k3 hk3); (have hi1 : (k3 : Int) < 6 := by omega); (have hi2 : (0 : Int) ≤ (k3 : Int) := by omega); (have hcell : w3.cell? ⟨wr.heap.size, k3, none⟩ = some (.int .i64 z) := cells_lit (kLens.map fun z => .int .i64 z) hb3 rfl k3 _ (by rw [List.getElem?_map, hz1]; rfl))))
      have hq3 := gtrans hqA hg3
      by_cases hlt : (s.size : Int) < z
      · go_wp2
        go_roundw
        case rel => exact ⟨s ++ { data := #[120] }, valid_app hv (by decide), by rw [ByteArray.size_append]; show s.size + 1 ≤ _; omega, rfl, hq3, hd3⟩
        case measure =>
          show 300 - (s ++ { data := #[120] }).size < 300 - s.size
          rw [ByteArray.size_append]
          show 300 - (s.size + 1) < _
          omega
      · go_wp2
        go_ret
        exact ⟨⟨s, by unfold textOk; rw [hv, decide_eq_true (show s.size ≤ 65536 by omega)]; rfl, by omega, rfl⟩, hq3, hd3⟩

end Go.Proofs.YthcgkkafbobfoaaDoor
