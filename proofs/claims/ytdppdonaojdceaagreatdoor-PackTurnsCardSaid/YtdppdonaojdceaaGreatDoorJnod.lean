/- The parser: node, at any depth. -/
import Derived.Test.YtdppdonaojdceaaGreatDoorJits
namespace Go.Proofs.YtdppdonaojdceaaGreatDoor
open Go Go.ChangeShapes Go.WideShapes Go.ChangeAt Go.RowKit
set_option linter.unusedVariables false
set_option linter.unusedSimpArgs false

theorem val_list {d : Nat} {q t : List UInt8} {y : ND} (h : valueP (d + 1) (91 :: q) = some (y, t)) : ∃ n0 ns its, itemsP (valueP d) (decide ((4 : Int) = 5)) 93 n0 [] [] q = some ((ns, its), t) ∧ y = .mk 4 false 0 ⟨#[]⟩ ns its := by
 rw [valueP_other d 91 q (by decide) (by decide) (by decide), if_neg (by decide), if_pos rfl] at h
 cases hi : itemsP (valueP d) false 93 (q.length + 1) [] [] q with
 | none => rw [hi] at h; cases h
 | some z =>
  obtain ⟨⟨ns, its⟩, t'⟩ := z
  rw [hi] at h
  cases h
  exact ⟨q.length + 1, ns, its, hi, rfl⟩
theorem val_map {d : Nat} {q t : List UInt8} {y : ND} (h : valueP (d + 1) (123 :: q) = some (y, t)) : ∃ n0 ns its, itemsP (valueP d) (decide ((5 : Int) = 5)) 125 n0 [] [] q = some ((ns, its), t) ∧ y = .mk 5 false 0 ⟨#[]⟩ ns its := by
 rw [valueP_other d 123 q (by decide) (by decide) (by decide), if_neg (by decide), if_neg (by decide), if_pos rfl] at h
 cases hi : itemsP (valueP d) true 125 (q.length + 1) [] [] q with
 | none => rw [hi] at h; cases h
 | some z =>
  obtain ⟨⟨ns, its⟩, t'⟩ := z
  rw [hi] at h
  cases h
  exact ⟨q.length + 1, ns, its, hi, rfl⟩
theorem val_text {d : Nat} {q t : List UInt8} {y : ND} (h : valueP (d + 1) (34 :: q) = some (y, t)) : ∃ s, quotedP q = some (s, t) ∧ y = .mk 3 false 0 (bA s) [] [] := by
 rw [valueP_other d 34 q (by decide) (by decide) (by decide), if_pos rfl] at h
 cases hi : quotedP q with
 | none => rw [hi] at h; cases h
 | some z =>
  obtain ⟨s, t'⟩ := z
  rw [hi] at h
  cases h
  exact ⟨s, rfl, rfl⟩
theorem val_nil (d : Nat) : valueP d [] = none := by
 cases d with
 | zero => rfl
 | succ d => unfold valueP; rw [if_pos rfl]
theorem no_pre {c : UInt8} {r : List UInt8} (h : Lib.hasPrefix r [c] = false) (q : List UInt8) : r ≠ c :: q := by
 rintro rfl
 rw [has34] at h
 simp at h
/-- A leaf is one at any depth. -/
theorem rpost_up {V : ND → List UInt8 → Prop} {g mw mc : Nat} {r : List UInt8} {w : World} {e : Ending} {w' : World} (D : Nat) (h : RPost V 0 g mw mc r w e w') : RPost V D g mw mc r w e w' := by
 obtain ⟨cs, x, ok, r', h1, h2, h3, h4, h5, ⟨-, h7⟩, h8⟩ := h
 have hi : x.items = [] := by
  obtain ⟨vn, vi, -, -, -, a, c, -, -, -, hx⟩ := h2
  refine List.eq_nil_iff_forall_not_mem.2 fun y hy => ?_
  obtain ⟨j, hj⟩ := List.getElem?_of_mem hy
  obtain ⟨b, off, cs, -, -, -, hf⟩ := hx j y hj
  exact hf
 refine ⟨cs, x, ok, r', h1, h2.deeper (by omega), h3, h4, h5, ⟨⟨by rw [hi]; simp, fun y hy => by rw [hi] at hy; simp at hy⟩, ?_⟩, h8⟩
 rw [numsB_succ, Bool.and_eq_true] at h7 ⊢
 exact ⟨h7.1, by rw [hi]; rfl⟩
/-- What a callee has read is handed on. -/
theorem rpost_on {V : ND → List UInt8 → Prop} {d g mw mc : Nat} {r : List UInt8} {w wX wY : World} {x : ND} {ok : Bool} {r' : List UInt8} {a1 a2 : Option Addr} {l1 c1 l2 c2 : Nat}
  (hn : NodeIn (d + 1) (fun b => wX.heap.size ≤ b ∧ b < wY.heap.size) wY [.int .i64 x.kind, .bool x.bool, .int .i64 x.num, .string x.text, .slice a1 l1 c1, .slice a2 l2 c2] x) (hX : w.heap.size < wX.heap.size) (hp : PrS wY g mw mc r') (hg : w.grownBy wY (some g)) (hgw : g < w.heap.size) (hl : r'.length ≤ r.length) (hf : lowV (d + 1) x ∧ numsB (d + 1) x = true) (hV : ∀ y t, V y t → ok = true ∧ x = y ∧ r' = t) :
  RPost V d g mw mc r w (.returned (.tuple #[.agg #[.int .i64 x.kind, .bool x.bool, .int .i64 x.num, .string x.text, .slice a1 l1 c1, .slice a2 l2 c2], .bool ok])) (set6 wY w.heap.size (.int .i64 x.kind) (.bool x.bool) (.int .i64 x.num) (.string x.text) (.slice a1 l1 c1) (.slice a2 l2 c2)) := by
 have hgs := grown_set6 wY w.heap.size (.int .i64 x.kind) (.bool x.bool) (.int .i64 x.num) (.string x.text) (.slice a1 l1 c1) (.slice a2 l2 c2)
 refine ⟨[.int .i64 x.kind, .bool x.bool, .int .i64 x.num, .string x.text, .slice a1 l1 c1, .slice a2 l2 c2], x, ok, r', rfl, ?_, hp.kept hgs hgw, grown_new hg hgs (Nat.le_refl _), hl, hf, hV⟩
 exact (hn.same fun b hb => hgs.block b hb.2 (by intro e; have := Option.some.inj e; omega)).mono fun b hb => ⟨by omega, Nat.lt_of_lt_of_le hb.2 hgs.size⟩
set_option maxHeartbeats 3200000 in
set_option maxRecDepth 100000 in
theorem pnode_zero : PNodeAt 0 := by
 intro g mw mc r w h hr
 have hgw := h.lt
 have bA' := (Below.refl w.heap.size w).alloc (o := .cells #[.int .i64 0, .bool false, .int .i64 0, .string ⟨#[]⟩, .slice none 0 0, .slice none 0 0] 30) (Nat.le_refl _)
 have h0 := h.below bA'
 have hr0 := heap_alloc_new w (.cells #[.int .i64 0, .bool false, .int .i64 0, .string ⟨#[]⟩, .slice none 0 0, .slice none 0 0] 30)
 have hg0 := galloc w (.cells #[.int .i64 0, .bool false, .int .i64 0, .string ⟨#[]⟩, .slice none 0 0, .slice none 0 0] 30) (some g)
 have hz0 : w.heap.size < (w.alloc (.cells #[.int .i64 0, .bool false, .int .i64 0, .string ⟨#[]⟩, .slice none 0 0, .slice none 0 0] 30)).heap.size := by simp
 have HP := Lib.hid (And.intro h0 hg0)
 have HR := Lib.hid hr0
 have f1 := free_six hr0
 have c1 := six_of hr0
 clear h bA' h0 hg0 hr0
 go_enter Tryz.func67, Tryz.ntmps67
 go_upto_region 1 with fail
 generalize w.alloc (.cells #[.int .i64 0, .bool false, .int .i64 0, .string ⟨#[]⟩, .slice none 0 0, .slice none 0 0] 30) = w0 at HP HR f1 c1 ⊢
 go_wp2
 refine bodyPost_ret (v := .tuple #[.agg #[.int .i64 0, .bool false, .int .i64 0, .string ⟨#[]⟩, .slice none 0 0, .slice none 0 0], .bool false]) ?_ ?_ ?_
 rotate_left
 ·rfl
 ·exact leaf_res (T := 0) 0 false 0 ⟨#[]⟩ false HP.out.1 HP.out.2 hgw (Nat.le_refl _) (by decide) (by decide) (fun y t hV => by have := hV.1; cases this)
 ·obtain ⟨q0, q1, q2, q3, q4, q5⟩ := six_of (six_put HR.out (.int .i64 0) (.bool false) (.int .i64 0) (.string ⟨#[]⟩) (.slice none 0 0) (.slice none 0 0))
  simp only [set6] at q0 q1 q2 q3 q4 q5
  simp [results, Tryz.results67, go_sem, q0, q1, q2, q3, q4, q5]
set_option maxHeartbeats 6400000 in
set_option maxRecDepth 100000 in
theorem pnode_step (d : Nat) (hd20 : d ≤ 20) (PN : PNodeAt d) : PNodeAt (d + 1) := by
 intro g mw mc r w h hr
 rw [show ((d + 1 : Nat) : Int) = (d : Int) + 1 by omega]
 have hgw := h.lt
 have bA' := (Below.refl w.heap.size w).alloc (o := .cells #[.int .i64 0, .bool false, .int .i64 0, .string ⟨#[]⟩, .slice none 0 0, .slice none 0 0] 30) (Nat.le_refl _)
 have h0 := h.below bA'
 have hr0 := heap_alloc_new w (.cells #[.int .i64 0, .bool false, .int .i64 0, .string ⟨#[]⟩, .slice none 0 0, .slice none 0 0] 30)
 have hg0 := galloc w (.cells #[.int .i64 0, .bool false, .int .i64 0, .string ⟨#[]⟩, .slice none 0 0, .slice none 0 0] 30) (some g)
 have hz0 : w.heap.size < (w.alloc (.cells #[.int .i64 0, .bool false, .int .i64 0, .string ⟨#[]⟩, .slice none 0 0, .slice none 0 0] 30)).heap.size := by simp
 cases hp91 : Lib.hasPrefix r [91] with
 | true =>
  have hrr0 := prefix_split hp91
  obtain ⟨q, hq⟩ : ∃ q, q = r.drop 1 := ⟨_, rfl⟩
  have hrr : r = 91 :: q := by rw [hq]; exact hrr0
  have hql : q.length + 1 = r.length := by rw [hrr]; rfl
  have S91 : Hid (∀ wx : World, PrS wx g mw mc r → Calls Tryz.prog 98 #[.pointer (some ⟨g, 0, none⟩), .string ⟨#[91]⟩] wx (PPost g mw mc wx (.bool true) q)) := Lib.hid fun wx hx => by
   have := skip_any ⟨#[91]⟩ wx hx
   rw [show (⟨#[91]⟩ : ByteArray).data.toList = [91] from rfl, hp91, trim_true hp91] at this
   rw [hq]; exact this
  have HRR := Lib.hid hrr
  clear hrr0 hrr hq hp91
  have IT := Lib.hid (fun (wx : World) (hx : PrS wx g mw mc q) => pitems_any d hd20 PN 4 93 (by decide) wx hx (by omega))
  have HV0 : Hid (∀ y t, (valueP (d + 1) r = some (y, t) ∧ endR t) → PItemsIs d 4 93 q y t) := Lib.hid fun y t hy => by rw [HRR.out] at hy; exact val_list hy.1
  clear h PN HRR
  have h1d : ¬ (d : Int) + 1 < 1 := by omega
  go_enter Tryz.func67, Tryz.ntmps67
  go_upto_region 1 with fail
  generalize w.alloc (.cells #[.int .i64 0, .bool false, .int .i64 0, .string ⟨#[]⟩, .slice none 0 0, .slice none 0 0] 30) = w0 at h0 hr0 hg0 hz0 ⊢
  have HR := Lib.hid hr0
  clear hr0 bA'
  go_wp2_with (first | (go_at_call 98; (with_reducible refine (S91.out _ h0).mono ?_); rintro e1 w1 ⟨rfl, hp1, hg1⟩) | (go_at_call 99; (with_reducible refine (IT.out _ hp1).mono ?_); rintro e5 w5 ⟨cs, x, ok, r', rfl, hnode, hp5, hg5, hl5, hf5, hv5⟩; go_loud ((obtain ⟨a1, l1, c1, a2, l2, c2, hcs⟩ := hnode.slices); subst hcs; (have hr9 := keepG (gtrans hg1 hg5) (by omega) HR.out); (have f9 := free_six hr9); (have c9 := six_of hr9); (have HR9 := Lib.hid hr9); (have HN := Lib.hid (And.intro hnode (And.intro hp5 hf5))); (have HG := Lib.hid (And.intro (hg1).size (gtrans hg1 hg5))); (have HL : Hid (r'.length ≤ r.length) := Lib.hid (by omega)); (have HVV : Hid (∀ y t, (valueP (d + 1) r = some (y, t) ∧ endR t) → ok = true ∧ x = y ∧ r' = t) := Lib.hid fun y t hy => hv5 y t (HV0.out y t hy)); clear hr9 hnode hp5 hf5 hg5 hv5)))
  refine bodyPost_ret (v := .tuple #[.agg #[.int .i64 x.kind, .bool x.bool, .int .i64 x.num, .string x.text, .slice a1 l1 c1, .slice a2 l2 c2], .bool ok]) ?_ ?_ ?_
  rotate_left
  ·rfl
  ·exact rpost_on HN.out.1 (Nat.lt_of_lt_of_le hz0 HG.out.1) HN.out.2.1 (gtrans hg0 HG.out.2) hgw HL.out HN.out.2.2 HVV.out
  ·obtain ⟨q0, q1, q2, q3, q4, q5⟩ := six_of (six_put HR9.out (.int .i64 x.kind) (.bool x.bool) (.int .i64 x.num) (.string x.text) (.slice a1 l1 c1) (.slice a2 l2 c2))
   simp only [set6] at q0 q1 q2 q3 q4 q5
   simp [results, Tryz.results67, go_sem, q0, q1, q2, q3, q4, q5]
 | false =>
  cases hp123 : Lib.hasPrefix r [123] with
  | true =>
   have S91 : Hid (∀ wx : World, PrS wx g mw mc r → Calls Tryz.prog 98 #[.pointer (some ⟨g, 0, none⟩), .string ⟨#[91]⟩] wx (PPost g mw mc wx (.bool false) r)) := Lib.hid fun wx hx => by
    have := skip_any ⟨#[91]⟩ wx hx
    rw [show (⟨#[91]⟩ : ByteArray).data.toList = [91] from rfl, hp91, trim_false hp91] at this
    exact this
   clear hp91
   have hrr0 := prefix_split hp123
   obtain ⟨q, hq⟩ : ∃ q, q = r.drop 1 := ⟨_, rfl⟩
   have hrr : r = 123 :: q := by rw [hq]; exact hrr0
   have hql : q.length + 1 = r.length := by rw [hrr]; rfl
   have S123 : Hid (∀ wx : World, PrS wx g mw mc r → Calls Tryz.prog 98 #[.pointer (some ⟨g, 0, none⟩), .string ⟨#[123]⟩] wx (PPost g mw mc wx (.bool true) q)) := Lib.hid fun wx hx => by
    have := skip_any ⟨#[123]⟩ wx hx
    rw [show (⟨#[123]⟩ : ByteArray).data.toList = [123] from rfl, hp123, trim_true hp123] at this
    rw [hq]; exact this
   have HRR := Lib.hid hrr
   clear hrr0 hrr hq hp123
   have IT := Lib.hid (fun (wx : World) (hx : PrS wx g mw mc q) => pitems_any d hd20 PN 5 125 (by decide) wx hx (by omega))
   have HV0 : Hid (∀ y t, (valueP (d + 1) r = some (y, t) ∧ endR t) → PItemsIs d 5 125 q y t) := Lib.hid fun y t hy => by rw [HRR.out] at hy; exact val_map hy.1
   clear h PN HRR
   have h1d : ¬ (d : Int) + 1 < 1 := by omega
   go_enter Tryz.func67, Tryz.ntmps67
   go_upto_region 1 with fail
   generalize w.alloc (.cells #[.int .i64 0, .bool false, .int .i64 0, .string ⟨#[]⟩, .slice none 0 0, .slice none 0 0] 30) = w0 at h0 hr0 hg0 hz0 ⊢
   have HR := Lib.hid hr0
   clear hr0 bA'
   go_wp2_with (first | (go_at_call 98; (with_reducible refine (S91.out _ h0).mono ?_); rintro e1 w1 ⟨rfl, hp1, hg1⟩) | (go_at_call 98; (with_reducible refine (S123.out _ hp1).mono ?_); rintro e2 w2 ⟨rfl, hp2, hg2⟩) | (go_at_call 99; (with_reducible refine (IT.out _ hp2).mono ?_); rintro e5 w5 ⟨cs, x, ok, r', rfl, hnode, hp5, hg5, hl5, hf5, hv5⟩; go_loud ((obtain ⟨a1, l1, c1, a2, l2, c2, hcs⟩ := hnode.slices); subst hcs; (have hr9 := keepG (gtrans (gtrans hg1 hg2) hg5) (by omega) HR.out); (have f9 := free_six hr9); (have c9 := six_of hr9); (have HR9 := Lib.hid hr9); (have HN := Lib.hid (And.intro hnode (And.intro hp5 hf5))); (have HG := Lib.hid (And.intro ((gtrans hg1 hg2)).size (gtrans (gtrans hg1 hg2) hg5))); (have HL : Hid (r'.length ≤ r.length) := Lib.hid (by omega)); (have HVV : Hid (∀ y t, (valueP (d + 1) r = some (y, t) ∧ endR t) → ok = true ∧ x = y ∧ r' = t) := Lib.hid fun y t hy => hv5 y t (HV0.out y t hy)); clear hr9 hnode hp5 hf5 hg5 hv5)))
   refine bodyPost_ret (v := .tuple #[.agg #[.int .i64 x.kind, .bool x.bool, .int .i64 x.num, .string x.text, .slice a1 l1 c1, .slice a2 l2 c2], .bool ok]) ?_ ?_ ?_
   rotate_left
   ·rfl
   ·exact rpost_on HN.out.1 (Nat.lt_of_lt_of_le hz0 HG.out.1) HN.out.2.1 (gtrans hg0 HG.out.2) hgw HL.out HN.out.2.2 HVV.out
   ·obtain ⟨q0, q1, q2, q3, q4, q5⟩ := six_of (six_put HR9.out (.int .i64 x.kind) (.bool x.bool) (.int .i64 x.num) (.string x.text) (.slice a1 l1 c1) (.slice a2 l2 c2))
    simp only [set6] at q0 q1 q2 q3 q4 q5
    simp [results, Tryz.results67, go_sem, q0, q1, q2, q3, q4, q5]
  | false =>
   cases hp34 : Lib.hasPrefix r [34] with
   | true =>
    have S91 : Hid (∀ wx : World, PrS wx g mw mc r → Calls Tryz.prog 98 #[.pointer (some ⟨g, 0, none⟩), .string ⟨#[91]⟩] wx (PPost g mw mc wx (.bool false) r)) := Lib.hid fun wx hx => by
     have := skip_any ⟨#[91]⟩ wx hx
     rw [show (⟨#[91]⟩ : ByteArray).data.toList = [91] from rfl, hp91, trim_false hp91] at this
     exact this
    have S123 : Hid (∀ wx : World, PrS wx g mw mc r → Calls Tryz.prog 98 #[.pointer (some ⟨g, 0, none⟩), .string ⟨#[123]⟩] wx (PPost g mw mc wx (.bool false) r)) := Lib.hid fun wx hx => by
     have := skip_any ⟨#[123]⟩ wx hx
     rw [show (⟨#[123]⟩ : ByteArray).data.toList = [123] from rfl, hp123, trim_false hp123] at this
     exact this
    clear hp91 hp123
    have hrr0 := prefix_split hp34
    obtain ⟨q, hq⟩ : ∃ q, q = r.drop 1 := ⟨_, rfl⟩
    have hrr : r = 34 :: q := by rw [hq]; exact hrr0
    have hql : q.length + 1 = r.length := by rw [hrr]; rfl
    have S34 : Hid (∀ wx : World, PrS wx g mw mc r → Calls Tryz.prog 98 #[.pointer (some ⟨g, 0, none⟩), .string ⟨#[34]⟩] wx (PPost g mw mc wx (.bool true) q)) := Lib.hid fun wx hx => by
     have := skip_any ⟨#[34]⟩ wx hx
     rw [show (⟨#[34]⟩ : ByteArray).data.toList = [34] from rfl, hp34, trim_true hp34] at this
     rw [hq]; exact this
    have HRR := Lib.hid hrr
    clear hrr0 hrr hq hp34
    have QT := Lib.hid (fun (wx : World) (hx : PrS wx g mw mc q) => pquoted_any wx hx (by omega))
    have HV0 : Hid (∀ y t, (valueP (d + 1) r = some (y, t) ∧ endR t) → ∃ s, quotedP q = some (s, t) ∧ y = .mk 3 false 0 (bA s) [] []) := Lib.hid fun y t hy => by rw [HRR.out] at hy; exact val_text hy.1
    clear h PN HRR
    have h1d : ¬ (d : Int) + 1 < 1 := by omega
    go_enter Tryz.func67, Tryz.ntmps67
    go_upto_region 1 with fail
    generalize w.alloc (.cells #[.int .i64 0, .bool false, .int .i64 0, .string ⟨#[]⟩, .slice none 0 0, .slice none 0 0] 30) = w0 at h0 hr0 hg0 hz0 ⊢
    have HR := Lib.hid hr0
    clear hr0 bA'
    go_wp2_with (first | (go_at_call 98; (with_reducible refine (S91.out _ h0).mono ?_); rintro e1 w1 ⟨rfl, hp1, hg1⟩) | (go_at_call 98; (with_reducible refine (S123.out _ hp1).mono ?_); rintro e2 w2 ⟨rfl, hp2, hg2⟩) | (go_at_call 98; (with_reducible refine (S34.out _ hp2).mono ?_); rintro e3 w3 ⟨rfl, hp3, hg3⟩) | (go_at_call 100; (with_reducible refine (QT.out _ hp3).mono ?_); rintro e5 w5 ⟨sl, ok, r', rfl, hp5, hg5, hl5, hq5⟩; (have NT := Lib.hid (ntext_any (bA sl) w5)); (have HQ5 := Lib.hid hq5); clear hq5) | (go_at_call 91; (with_reducible refine (NT.out).mono ?_); rintro e6 w6 ⟨rfl, hb6⟩; (have hg9 := gtrans (gtrans (gtrans (gtrans hg1 hg2) hg3) hg5) (grown_of_below hb6 (Nat.le_refl _) _)); (have hr9 := keepG hg9 (by omega) HR.out); (have f9 := free_six hr9); (have c9 := six_of hr9); (have HR9 := Lib.hid hr9); (have HP9 := Lib.hid (And.intro (hp5.below hb6) (gtrans hg0 hg9))); clear hr9 hg9))
    refine bodyPost_ret (v := .tuple #[.agg #[.int .i64 3, .bool false, .int .i64 0, .string (bA sl), .slice none 0 0, .slice none 0 0], .bool ok]) ?_ ?_ ?_
    rotate_left
    ·rfl
    ·exact leaf_res (T := 0) 3 false 0 (bA sl) ok HP9.out.1 HP9.out.2 hgw (by omega) (by rw [bA_size]; unfold maxLen; omega) (by decide) (fun y t hV => by
      obtain ⟨s', e1, e2⟩ := HV0.out y t hV
      obtain ⟨h1, h2, h3⟩ := HQ5.out s' t e1
      subst h2
      exact ⟨h1, e2.symm, h3⟩)
    ·obtain ⟨q0, q1, q2, q3, q4, q5⟩ := six_of (six_put HR9.out (.int .i64 3) (.bool false) (.int .i64 0) (.string (bA sl)) (.slice none 0 0) (.slice none 0 0))
     simp only [set6] at q0 q1 q2 q3 q4 q5
     simp [results, Tryz.results67, go_sem, q0, q1, q2, q3, q4, q5]
   | false =>
    have S91 : Hid (∀ wx : World, PrS wx g mw mc r → Calls Tryz.prog 98 #[.pointer (some ⟨g, 0, none⟩), .string ⟨#[91]⟩] wx (PPost g mw mc wx (.bool false) r)) := Lib.hid fun wx hx => by
     have := skip_any ⟨#[91]⟩ wx hx
     rw [show (⟨#[91]⟩ : ByteArray).data.toList = [91] from rfl, hp91, trim_false hp91] at this
     exact this
    have S123 : Hid (∀ wx : World, PrS wx g mw mc r → Calls Tryz.prog 98 #[.pointer (some ⟨g, 0, none⟩), .string ⟨#[123]⟩] wx (PPost g mw mc wx (.bool false) r)) := Lib.hid fun wx hx => by
     have := skip_any ⟨#[123]⟩ wx hx
     rw [show (⟨#[123]⟩ : ByteArray).data.toList = [123] from rfl, hp123, trim_false hp123] at this
     exact this
    have S34 : Hid (∀ wx : World, PrS wx g mw mc r → Calls Tryz.prog 98 #[.pointer (some ⟨g, 0, none⟩), .string ⟨#[34]⟩] wx (PPost g mw mc wx (.bool false) r)) := Lib.hid fun wx hx => by
     have := skip_any ⟨#[34]⟩ wx hx
     rw [show (⟨#[34]⟩ : ByteArray).data.toList = [34] from rfl, hp34, trim_false hp34] at this
     exact this
    have BR := Lib.hid (fun (wx : World) (hx : PrS wx g mw mc r) => (bare_any wx hx hr).mono fun e w' hh => rpost_up (d + 1) hh)
    have HV0 : Hid (∀ y t, (valueP (d + 1) r = some (y, t) ∧ endR t) → BareIs r y t) := Lib.hid fun y t hy => by
     cases hrr : r with
     | nil => rw [hrr, val_nil] at hy; cases hy.1
     | cons c q =>
      rw [hrr] at hy
      exact bare_val hy.1 (fun e => no_pre hp34 q (by rw [hrr, e])) (fun e => no_pre hp91 q (by rw [hrr, e])) (fun e => no_pre hp123 q (by rw [hrr, e])) hy.2
    clear h PN hp91 hp123 hp34
    have h1d : ¬ (d : Int) + 1 < 1 := by omega
    go_enter Tryz.func67, Tryz.ntmps67
    go_upto_region 1 with fail
    generalize w.alloc (.cells #[.int .i64 0, .bool false, .int .i64 0, .string ⟨#[]⟩, .slice none 0 0, .slice none 0 0] 30) = w0 at h0 hr0 hg0 hz0 ⊢
    have HR := Lib.hid hr0
    clear hr0 bA'
    go_wp2_with (first | (go_at_call 98; (with_reducible refine (S91.out _ h0).mono ?_); rintro e1 w1 ⟨rfl, hp1, hg1⟩) | (go_at_call 98; (with_reducible refine (S123.out _ hp1).mono ?_); rintro e2 w2 ⟨rfl, hp2, hg2⟩) | (go_at_call 98; (with_reducible refine (S34.out _ hp2).mono ?_); rintro e3 w3 ⟨rfl, hp3, hg3⟩) | (go_at_call 101; (with_reducible refine (BR.out _ hp3).mono ?_); rintro e5 w5 ⟨cs, x, ok, r', rfl, hnode, hp5, hg5, hl5, hf5, hv5⟩; go_loud ((obtain ⟨a1, l1, c1, a2, l2, c2, hcs⟩ := hnode.slices); subst hcs; (have hr9 := keepG (gtrans (gtrans (gtrans hg1 hg2) hg3) hg5) (by omega) HR.out); (have f9 := free_six hr9); (have c9 := six_of hr9); (have HR9 := Lib.hid hr9); (have HN := Lib.hid (And.intro hnode (And.intro hp5 hf5))); (have HG := Lib.hid (And.intro ((gtrans (gtrans hg1 hg2) hg3)).size (gtrans (gtrans (gtrans hg1 hg2) hg3) hg5))); (have HL : Hid (r'.length ≤ r.length) := Lib.hid (hl5)); (have HVV : Hid (∀ y t, (valueP (d + 1) r = some (y, t) ∧ endR t) → ok = true ∧ x = y ∧ r' = t) := Lib.hid fun y t hy => hv5 y t (HV0.out y t hy)); clear hr9 hnode hp5 hf5 hg5 hv5)))
    refine bodyPost_ret (v := .tuple #[.agg #[.int .i64 x.kind, .bool x.bool, .int .i64 x.num, .string x.text, .slice a1 l1 c1, .slice a2 l2 c2], .bool ok]) ?_ ?_ ?_
    rotate_left
    ·rfl
    ·exact rpost_on HN.out.1 (Nat.lt_of_lt_of_le hz0 HG.out.1) HN.out.2.1 (gtrans hg0 HG.out.2) hgw HL.out HN.out.2.2 HVV.out
    ·obtain ⟨q0, q1, q2, q3, q4, q5⟩ := six_of (six_put HR9.out (.int .i64 x.kind) (.bool x.bool) (.int .i64 x.num) (.string x.text) (.slice a1 l1 c1) (.slice a2 l2 c2))
     simp only [set6] at q0 q1 q2 q3 q4 q5
     simp [results, Tryz.results67, go_sem, q0, q1, q2, q3, q4, q5]
theorem pnode_any : ∀ d, d ≤ 20 → PNodeAt d
 | 0, _ => pnode_zero
 | d + 1, h => pnode_step d (by omega) (pnode_any d (by omega))
end Go.Proofs.YtdppdonaojdceaaGreatDoor
