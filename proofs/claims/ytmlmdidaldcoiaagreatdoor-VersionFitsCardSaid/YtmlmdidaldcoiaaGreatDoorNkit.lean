/- Which texts may stand in a node; what is valid UTF-8 stays so under more valid text. No program. -/
import Derived.Test.YtmlmdidaldcoiaaGreatDoorNshape
import Derived.Lib.ValidLaws
namespace Go.Proofs.YtmlmdidaldcoiaaGreatDoor
open Go.Lib
set_option linter.unusedVariables false

theorem checkN_more {n n' b1 b2 b3 c1 c2 c3 sz lo hi k : Nat} (h : checkN n b1 b2 b3 sz lo hi = some k) (hn : n ≤ n') (h1 : 1 < k → c1 = b1) (h2 : 2 < k → c2 = b2) (h3 : 3 < k → c3 = b3) : checkN n' c1 c2 c3 sz lo hi = some k ∧ k ≤ n ∧ 2 ≤ k := by
 unfold checkN at h ⊢
 split at h
 ·split at h
  ·cases h
  ·cases h
   rename_i e1 e2
   have := h1 (by decide)
   rw [if_pos e1, if_neg (by omega)]
   exact ⟨rfl, by omega, by omega⟩
 ·split at h
  ·split at h
   ·cases h
   ·cases h
    rename_i e0 e1 e2
    have := h1 (by decide)
    have := h2 (by decide)
    rw [if_neg e0, if_pos e1, if_neg (by omega)]
    exact ⟨rfl, by omega, by omega⟩
  ·split at h
   ·split at h
    ·cases h
    ·cases h
     rename_i e0 e1 e2 e3
     have := h1 (by decide)
     have := h2 (by decide)
     have := h3 (by decide)
     rw [if_neg e0, if_neg e1, if_pos e2, if_neg (by omega)]
     exact ⟨rfl, by omega, by omega⟩
   ·cases h
/-- What is valid stays so under whatever stands behind it. -/
theorem validD_app : ∀ (n : Nat) (l m : List UInt8), l.length ≤ n → validD l = true → validD (l ++ m) = validD m
 | n, [], m, _, _ => rfl
 | 0, b :: t, m, hn, _ => by simp at hn
 | n + 1, b :: t, m, hn, h => by
  by_cases hb : b.toNat < 128
  ·rw [validD_cons b t hb] at h
   show validD (b :: (t ++ m)) = _
   rw [validD_cons b _ hb]
   exact validD_app n t m (by simpa using hn) h
  ·have e := validD_lead (b :: t) (by simp) (by show 128 ≤ b.toNat; omega)
   rw [h] at e
   split at e
   ·cases e
   ·rename_i k hk
    have hg : ∀ i, i < (b :: t).length → ((b :: t) ++ m).getD i 0 = (b :: t).getD i 0 := fun i hi => by
     simp only [List.getD_eq_getElem?_getD]; rw [List.getElem?_append_left hi]
    have hkn : k ≤ (b :: t).length := (checkN_more hk (Nat.le_refl _) (fun _ => rfl) (fun _ => rfl) (fun _ => rfl)).2.1
    obtain ⟨q1, q2, q3⟩ := checkN_more (n' := ((b :: t) ++ m).length) hk (by simp) (c1 := (((b :: t) ++ m).getD 1 0).toNat) (c2 := (((b :: t) ++ m).getD 2 0).toNat) (c3 := (((b :: t) ++ m).getD 3 0).toNat) (fun hk => by rw [hg 1 (by omega)]) (fun hk => by rw [hg 2 (by omega)]) (fun hk => by rw [hg 3 (by omega)])
    have e2 := validD_lead ((b :: t) ++ m) (by simp) (by show 128 ≤ b.toNat; omega)
    rw [hg 0 (by simp)] at e2
    rw [q1] at e2
    rw [e2]
    show validD (((b :: t) ++ m).drop k) = _
    rw [List.drop_append_of_le_length q2]
    exact validD_app n _ m (by rw [List.length_drop]; omega) e.symm
theorem valid_app {s t : ByteArray} (hs : validD s.data.toList = true) (ht : validD t.data.toList = true) : validD (s ++ t).data.toList = true := by
 have e : (s ++ t).data.toList = s.data.toList ++ t.data.toList := by simp
 rw [e, validD_app _ _ _ (Nat.le_refl _) hs]; exact ht
/-- A text that may stand in a node. -/
def textOk (s : ByteArray) : Bool := decide (s.size ≤ 65536) && validD s.data.toList

end Go.Proofs.YtmlmdidaldcoiaaGreatDoor
/- Valid, Get and Put of nodes as data, and what follows of them: what was put is got, nothing else changes. No program. -/
namespace Go.Proofs.YtmlmdidaldcoiaaGreatDoor
set_option linter.unusedVariables false
/-- The document's definition: nodes that are valid and at most d deep. -/
def flatOk (x : ND) : Bool :=
 decide (0 ≤ x.kind) && decide (x.kind ≤ 5) && (!x.bool || decide (x.kind = 1)) && (decide (x.num = 0) || decide (x.kind = 2)) && (decide (x.text = ⟨#[]⟩) || decide (x.kind = 3)) &&
 (decide (x.items.length = 0) || decide (4 ≤ x.kind)) && (decide (x.names.length = 0) || decide (x.kind = 5)) && textOk x.text && decide (x.items.length ≤ 256) && (decide (x.kind ≠ 5) || decide (x.names.length = x.items.length)) &&
 x.names.all textOk && decide x.names.Nodup
def validN : Nat → ND → Bool
 | 0, _ => false
 | d + 1, x => flatOk x && x.items.all (validN d)
theorem validN_succ (d : Nat) (x : ND) : validN (d + 1) x = (flatOk x && x.items.all (validN d)) := rfl
theorem validN_mono : ∀ {d d' : Nat} {x : ND}, d ≤ d' → validN d x = true → validN d' x = true
 | 0, _, _, _, h => by cases h
 | d + 1, 0, _, hd, _ => by omega
 | d + 1, d' + 1, x, hd, h => by
  rw [validN_succ, Bool.and_eq_true, List.all_eq_true] at h ⊢
  exact ⟨h.1, fun y hy => validN_mono (by omega) (h.2 y hy)⟩
/-- What a map that is valid holds. -/
structure MapOk (d : Nat) (x : ND) : Prop where
 kind : x.kind = 5
 bool : x.bool = false
 num : x.num = 0
 text : x.text = ⟨#[]⟩
 len : x.names.length = x.items.length
 most : x.items.length ≤ 256
 texts : ∀ s, s ∈ x.names → textOk s = true
 nodup : x.names.Nodup
 items : ∀ y, y ∈ x.items → validN d y = true
theorem mapOk_iff {d : Nat} {x : ND} (hk : x.kind = 5) : validN (d + 1) x = true ↔ MapOk d x := by
 have ht : textOk ⟨#[]⟩ = true := by decide
 rw [validN_succ]
 unfold flatOk
 simp only [Bool.and_eq_true, List.all_eq_true, hk]
 constructor
 ·rintro ⟨⟨⟨⟨⟨⟨⟨⟨⟨⟨⟨⟨-, -⟩, h1⟩, h2⟩, h3⟩, -⟩, -⟩, -⟩, h4⟩, h5⟩, h6⟩, h7⟩, h8⟩
  refine ⟨hk, ?_, ?_, ?_, ?_, ?_, h6, by simpa using h7, h8⟩
  ·simpa using h1
  ·simpa using h2
  ·simpa using h3
  ·simpa using h5
  ·simpa using h4
 ·intro h
  refine ⟨⟨⟨⟨⟨⟨⟨⟨⟨⟨⟨⟨by decide, by decide⟩, ?_⟩, ?_⟩, ?_⟩, ?_⟩, ?_⟩, ?_⟩, ?_⟩, ?_⟩, h.texts⟩, by simpa using h.nodup⟩, h.items⟩
  ·simp [h.bool]
  ·simp [h.num]
  ·simp [h.text]
  ·simp
  ·simp
  ·rw [h.text]; exact ht
  ·simpa using h.most
  ·simp [h.len]
/-- A number that an int holds. -/
def wideI (z : Int) : Bool := decide (-9223372036854775808 ≤ z) && decide (z ≤ 9223372036854775807)
/-- All numbers are what an int holds. -/
def numsB : Nat → ND → Bool
 | 0, _ => true
 | d + 1, x => wideI x.num && x.items.all (numsB d)
/-- Valid, and all numbers are what an int holds. -/
def validW (d : Nat) (x : ND) : Bool := validN d x && numsB d x
theorem validW_valid {d : Nat} {x : ND} (h : validW d x = true) : validN d x = true := by unfold validW at h; rw [Bool.and_eq_true] at h; exact h.1
theorem validW_nums {d : Nat} {x : ND} (h : validW d x = true) : numsB d x = true := by unfold validW at h; rw [Bool.and_eq_true] at h; exact h.2
theorem validW_mk {d : Nat} {x : ND} (h : validN (d + 1) x = true) (hw : wideI x.num = true) (hi : ∀ y, y ∈ x.items → validW d y = true) : validW (d + 1) x = true := by
 unfold validW numsB
 rw [h, hw, Bool.true_and, Bool.true_and, List.all_eq_true]
 exact fun y hy => validW_nums (hi y hy)
theorem numsB_succ (d : Nat) (x : ND) : numsB (d + 1) x = (wideI x.num && x.items.all (numsB d)) := rfl
/-- A bound on a node's text in any serialisation. -/
def costN : Nat → ND → Nat
 | 0, _ => 0
 | d + 1, x => 24 + 6 * x.text.size + (x.names.map fun s => 6 * s.size + 8).sum + (x.items.map fun y => costN d y + 1).sum
theorem costN_succ (d : Nat) (x : ND) : costN (d + 1) x = 24 + 6 * x.text.size + (x.names.map fun s => 6 * s.size + 8).sum + (x.items.map fun y => costN d y + 1).sum := rfl
/-- How much the kit's nodes of a depth cost at most. -/
def bndN : Nat → Nat
 | 0 => 259
 | d + 1 => 1047 + 3 * bndN d
theorem bndN_succ (d : Nat) : bndN (d + 1) = 1047 + 3 * bndN d := rfl
theorem bndN_1 : ∀ {d : Nat}, 1 ≤ d → 1824 ≤ bndN d
 | 1, _ => by decide
 | d + 2, _ => by have := bndN_1 (d := d + 1) (by omega); rw [bndN_succ]; omega
theorem sum_le {α : Type} {f : α → Nat} {c : Nat} : ∀ {l : List α}, (∀ y, y ∈ l → f y ≤ c) → (l.map f).sum ≤ c * l.length
 | [], _ => Nat.le_refl _
 | a :: t, h => by
  have h1 := sum_le (f := f) (c := c) (l := t) fun y hy => h y (by simp [hy])
  have h2 := h a (by simp)
  rw [List.map_cons, List.sum_cons, List.length_cons, Nat.mul_add]
  omega
/-- What the kit's nodes are: valid, all numbers are what an int holds, and not too costly. -/
def validK (d : Nat) (x : ND) : Bool := validW d x && decide (costN d x ≤ bndN d)
theorem validK_w {d : Nat} {x : ND} (h : validK d x = true) : validW d x = true := by unfold validK at h; rw [Bool.and_eq_true] at h; exact h.1
theorem validK_valid {d : Nat} {x : ND} (h : validK d x = true) : validN d x = true := validW_valid (validK_w h)
theorem validK_cost {d : Nat} {x : ND} (h : validK d x = true) : costN d x ≤ bndN d := by unfold validK at h; rw [Bool.and_eq_true] at h; exact of_decide_eq_true h.2
theorem validK_mk {d : Nat} {x : ND} (h : validW d x = true) (hc : costN d x ≤ bndN d) : validK d x = true := by unfold validK; rw [h, decide_eq_true hc]; rfl
/-- What the items of a row cost. -/
def costs (d : Nat) (its : List ND) : Nat := (its.map fun y => costN d y + 1).sum
theorem costs_few {d : Nat} {its : List ND} (h : ∀ y, y ∈ its → validK d y = true) (hl : its.length ≤ 3) : costs d its ≤ 3 * (bndN d + 1) := by
 have := sum_le (f := fun y => costN d y + 1) (c := bndN d + 1) (l := its) fun y hy => Nat.succ_le_succ (validK_cost (h y hy))
 exact Nat.le_trans this (by rw [Nat.mul_comm]; exact Nat.mul_le_mul_right _ hl)
theorem costs_push (d : Nat) (its : List ND) (y : ND) : costs d (its ++ [y]) = costs d its + (costN d y + 1) := by unfold costs; rw [List.map_append, List.sum_append]; rfl
end Go.Proofs.YtmlmdidaldcoiaaGreatDoor
/- The kit's dice for nodes: one of some strings (Word), a text (Text). -/
namespace Go.Proofs.YtmlmdidaldcoiaaGreatDoor
open Go.ChangeShapes Go.WideShapes Go.ChangeAt Go.RowKit
set_option linter.unusedVariables false
set_option linter.unusedSimpArgs false

set_option maxHeartbeats 800000 in
set_option maxRecDepth 100000 in
/-- Some string of a slice that is not empty. -/
theorem word_any (B g b cap : Nat) (n : Nat) (ns : List ByteArray) (w : World) (h1 : 1 ≤ n) (hn : n < 2 ^ 62) (hl : ns.length = n) (hc : ∀ j s, ns[j]? = some s → w.cell? ⟨b, j, none⟩ = some (.string s)) (hb : b ≠ g) (hd : DiceAt B w g) :
  Calls Tryz.prog 20 #[.pointer (some ⟨g, 0, none⟩), .slice (some ⟨b, 0, none⟩) n cap] w fun e w' => (∃ s, s ∈ ns ∧ e = .returned (.string s)) ∧ w.grownBy w' (some g) ∧ DiceAt B w' g := by
 have N := Lib.hid (fun (wx : World) (hx : DiceAt B wx g) => next_any B g n wx h1 hn hx)
 go_enter Tryz.func20, Tryz.ntmps20
 have CC := Lib.hid hc
 clear hc
 go_wp2_with (go_at_call 18; (with_reducible refine (N.out _ hd).mono ?_); rintro e w1 ⟨⟨k, hk, rfl⟩, hg1, hd1⟩; go_loud ((have hk1 : k < ns.length := by omega); (have hk2 : (k : Int) < (n : Int) := by omega); (have hk3 : (0 : Int) ≤ (k : Int) := by omega); (have hm : ns[k] ∈ ns := List.getElem_mem hk1); (have hcell : w1.cell? ⟨b, k, none⟩ = some (.string ns[k]) := hg1.cell (CC.out k _ (List.getElem?_eq_getElem hk1)) (by intro e; have := Option.some.inj e; dsimp only at this; omega)); generalize ns[k] = s at hcell hm))
 go_ret
 exact ⟨⟨s, hm, rfl⟩, hg1, hd1⟩

/-- The cells of a literal slice. -/
theorem cells_lit {w : World} {b : Nat} {T : TypeId} {cs : Array Value} (vs : List Value) (h : w.heap[b]? = some (.cells cs T (0, 0))) (e : cs = vs.toArray) : ∀ j v, vs[j]? = some v → w.cell? ⟨b, j, none⟩ = some v := by
 intro j v hj
 subst e
 simp [World.cell?, h, hj]
theorem cells_lits {w : World} {b : Nat} {T : TypeId} {cs : Array Value} (ns : List ByteArray) (h : w.heap[b]? = some (.cells cs T (0, 0))) (e : cs = (ns.map Value.string).toArray) : ∀ j s, ns[j]? = some s → w.cell? ⟨b, j, none⟩ = some (.string s) :=
 fun j s hj => cells_lit _ h e j _ (by rw [List.getElem?_map, hj]; rfl)
/-- Some text that may stand in a node. -/
def SomeText (e : Ending) : Prop := ∃ s : ByteArray, textOk s = true ∧ s.size ≤ 300 ∧ e = .returned (.string s)
def kTexts : List ByteArray := [⟨#[]⟩, ⟨#[97]⟩, ⟨#[66, 111, 110, 110]⟩, ⟨#[97, 32, 34, 113, 117, 111, 116, 101, 100, 34, 32, 92, 32, 116, 101, 120, 116]⟩, ⟨#[108, 105, 110, 101, 10, 97, 110, 100, 9, 116, 97, 98, 1, 31, 127]⟩, ⟨#[195, 164, 226, 130, 172, 240, 159, 152, 128]⟩, ⟨#[75, 69, 82, 73, 49, 48, 74, 83, 79, 78, 48, 48, 48, 48, 50, 97, 95]⟩]
theorem kTexts_ok : ∀ s, s ∈ kTexts → s.size ≤ 20 ∧ Lib.validD s.data.toList = true := by decide +kernel
def kLens : List Int := [23, 24, 31, 32, 255, 256]
theorem kLens_ok : ∀ j, j < 6 → ∃ z : Int, kLens[j]? = some z ∧ z ≤ 256 := by
 intro j hj
 obtain rfl | rfl | rfl | rfl | rfl | rfl : j = 0 ∨ j = 1 ∨ j = 2 ∨ j = 3 ∨ j = 4 ∨ j = 5 := by omega
 all_goals exact ⟨_, rfl, by decide⟩
set_option maxHeartbeats 1600000 in
set_option maxRecDepth 100000 in
theorem ktext_any (B g : Nat) (w : World) (hd : DiceAt B w g) :
  Calls Tryz.prog 19 #[.pointer (some ⟨g, 0, none⟩)] w fun e w' => SomeText e ∧ w.grownBy w' (some g) ∧ DiceAt B w' g := by
 have N10 := Lib.hid (fun (wx : World) (hx : DiceAt B wx g) => next_lit B g 10 10 rfl wx (by decide) (by decide) hx)
 have N6 := Lib.hid (fun (wx : World) (hx : DiceAt B wx g) => next_lit B g 6 6 rfl wx (by decide) (by decide) hx)
 have hgw := hd.lt
 obtain ⟨b0, hb0⟩ : ∃ b0, b0 = Obj.cells (kTexts.map Value.string).toArray 9 (0, 0) := ⟨_, rfl⟩
 have WD := Lib.hid (word_any B g w.heap.size 7 7 kTexts (w.alloc (.cells (kTexts.map Value.string).toArray 9)) (by decide) (by decide) rfl (cells_lits kTexts (heap_alloc_new _ _) rfl) (by omega) (hd.go ((Below.refl w.heap.size w).alloc (Nat.le_refl _) _)))
 have q0 := galloc w (.cells (kTexts.map Value.string).toArray 9) (some g)
 clear hd hb0
 go_enter Tryz.func19, Tryz.ntmps19
 go_upto_if 7 with (first
  | (go_at_call 20; refine (WD.out).mono ?_; rintro e w1 ⟨⟨s0, hs0, rfl⟩, hg1, hd1⟩)
  | (go_at_call 18; (with_reducible refine (N10.out _ hd1).mono ?_); rintro e w2 ⟨⟨k, hk, rfl⟩, hg2, hd2⟩))
 all_goals have hs := kTexts_ok s0 hs0
 all_goals have q2 := gtrans (gtrans q0 hg1) hg2
 rotate_left
 ·go_ret
  exact ⟨⟨s0, by unfold textOk; rw [hs.2, decide_eq_true (show s0.size ≤ 65536 by omega)]; rfl, by omega, rfl⟩, q2, hd2⟩
 ·have HQ := Lib.hid q2
  have HD := Lib.hid hd2
  clear q2 hd2 hg1 hg2 hd1 q0 WD N10
  generalize Value.bool ((k : Int) == 1) = vb
  go_loopw [3] (fun v wr => ∃ s : ByteArray, Lib.validD s.data.toList = true ∧ s.size ≤ 256 ∧ v = .string s ∧ w.grownBy wr (some g) ∧ DiceAt B wr g) (fun v _ => 300 - strSize v)
  case atStart => exact ⟨s0, hs.2, by omega, rfl, HQ.out, HD.out⟩
  case round =>
   clear HQ HD hs hs0
   obtain ⟨s, hv, hz, rfl, hq, hdi⟩ := hrel
   have hcat : ¬ 9223372036854775807 < s.size + 1 := by omega
   have hb0 : (wr.alloc (.cells #[.int .i64 23, .int .i64 24, .int .i64 31, .int .i64 32, .int .i64 255, .int .i64 256] 3)).heap[wr.heap.size]? = some (.cells #[.int .i64 23, .int .i64 24, .int .i64 31, .int .i64 32, .int .i64 255, .int .i64 256] 3 (0, 0)) := heap_alloc_new _ _
   have hgr := hdi.lt
   have hdA := hdi.go ((Below.refl wr.heap.size wr).alloc (o := .cells #[.int .i64 23, .int .i64 24, .int .i64 31, .int .i64 32, .int .i64 255, .int .i64 256] 3) (Nat.le_refl _))
   have hqA := gtrans hq (galloc wr (.cells #[.int .i64 23, .int .i64 24, .int .i64 31, .int .i64 32, .int .i64 255, .int .i64 256] 3) (some g))
   go_upto_if 17 with (go_at_call 18; (with_reducible refine (N6.out _ hdA).mono ?_); rintro e w3 ⟨⟨k3, hk3, rfl⟩, hg3, hd3⟩; go_loud ((have hb3 := keepG hg3 (by omega) hb0); (obtain ⟨z, hz1, hz2⟩ := kLens_ok k3 hk3); (have hi1 : (k3 : Int) < 6 := by omega); (have hi2 : (0 : Int) ≤ (k3 : Int) := by omega); (have hcell : w3.cell? ⟨wr.heap.size, k3, none⟩ = some (.int .i64 z) := cells_lit (kLens.map fun z => .int .i64 z) hb3 rfl k3 _ (by rw [List.getElem?_map, hz1]; rfl))))
   have hq3 := gtrans hqA hg3
   by_cases hlt : (s.size : Int) < z
   ·go_wp2
    go_roundw
    case rel => exact ⟨s ++ { data := #[120] }, valid_app hv (by decide), by rw [ByteArray.size_append]; show s.size + 1 ≤ _; omega, rfl, hq3, hd3⟩
    case measure =>
     show 300 - (s ++ { data := #[120] }).size < 300 - s.size
     rw [ByteArray.size_append]
     show 300 - (s.size + 1) < _
     omega
   ·go_wp2
    go_ret
    exact ⟨⟨s, by unfold textOk; rw [hv, decide_eq_true (show s.size ≤ 65536 by omega)]; rfl, by omega, rfl⟩, hq3, hd3⟩

end Go.Proofs.YtmlmdidaldcoiaaGreatDoor
